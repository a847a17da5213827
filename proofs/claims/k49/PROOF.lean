import PyProof.Rows.All
import Wide.All
import OpenK.AllK
import Wide.FinOn
import PySem.Challenge.RW_stampsheets_k49_row_costs
import HandS.Base
import HandS.Call
import HandS.List
import HandS.Comp
import HandS.Ends
import HandS.Dict
import HandS.Iter
import HandS.Text
import HandS.Words
import HandS.Evl
import KE.GoesNew
import PyProof.EnumMake
import HandS.ForMost
import HandS.IsInst
import HandS.Replace
import HandS.SetFor
import HandS.ReplaceList
import PyProof.StrReplace2
import HandS.Steps
import KE.KEqSeq
import KE.SortKeyHeap
import KE.KSortKey
import HandS.SortKw
import HandS.Style
import HandS.TryOnly
import HandS.Gcd
import HandS.Wide
import HandS.IterVal
import HandS.DictComp
import KE.KOwnIter
import KE.GoesMore
import HandS.DeepEq
import KE.KOwnIn
import KE.KRevSl
import PyProof.SliceStr2
import HandS.Property
import HandS.TupAny
import HandS.Strs
import HandS.More
import HandS.RevRange
import HandS.Conv
import HandS.Deep
import PyProof.TupleOfSeq
import HandS.ForExc
import HandS.ExcCtx
import HandS.HotCalls
import HandS.ExcInit
import HandS.ExcField
import HandS.ExcIs
import KE.KExcIs
import HandS.ExcInitHot
import KE.KDictZip
import HandS.Nested
import HandS.EndTab
import KE.GoesEnum
import HandS.TupLe
import HandS.Small
import HandS.ExcOwn
import PyProof.Rows.StrCase
import PyProof.ExcBaseAll.ValueError
import KE.DatumOrd
import KE.KNest
set_option Elab.async false
set_option linter.all false
set_option maxRecDepth 100000
set_option maxHeartbeats 2000000
namespace Mi
open PySem PySem.Spec PyProof.Rows L2

/-! ### pairs that are known ahead, each in a new tuple -/
def ItP (ps : List (V × V)) : It :=
  ⟨fun i _ => i < ps.length, fun i H v H' => ∃ T x y, v = .ref T ∧ H T = none ∧ H' = upd H T (.tup [x, y]) ∧ ps[i]? = some (x, y), fun i _ => i = ps.length⟩
def YP (ps : List (V × V)) (i : Nat) (h0 : Heap) (v : Value) (h : Heap) : Prop :=
  ∃ T a b, v = .ref T ∧ h0.objs.size ≤ T ∧ (∃ x y, ps[i]? = some (x, y) ∧ RelV x a ∧ RelV y b) ∧ h.IsTuple T #[a, b]
theorem turn_pairs {P : Program} {w : World} {K : PySem.W.Frag} {tg : Expr} {I : Addr} {fp wr : List Addr} {n : Nat} {St : Nat → Heap → Prop} (ps : List (V × V)) (hn : ps.length = n)
    (mem : I ∈ fp) (obj : ∀ i h, St i h → ∀ b ∈ fp, ∃ o, h.get? b = some o ∧ ∀ v, o.data ≠ .cell v)
    (W : ∀ A : Around, A.handled = none → GoesN P w A tg I fp wr n (YP ps) St) (A0 : Around) (hA0 : A0.handled = none)
    (self : ∀ (A : Around) (i : Nat) (s : Shared) (Q : Value → Shared → Prop) (E : Value → Shared → Prop), St i s.heap → Q (.ref I) s → wpAny (model P w) A (pyIter (.ref I)) Q E s) : Turn P w K tg (ItP ps) fp I St where
  mem := mem
  obj := obj
  keep := (W A0 hA0).frame
  item := by
    intro X hP hw hK hc i pins s σ H E I hf st hg
    subst hP hw hK
    have W1 := W X.A (I.ok.hd hc)
    refine W1.goes i s _ E (by rw [← hn]; exact hg) st fun v h' tk hY st' hk htk => ?_
    obtain ⟨T, a, b, rfl, hT, ⟨x, y, hxy, ra, rb⟩, ht⟩ := hY
    have new : ObjOk X.prog X.w (upd H T (.tup [x, y])) h' T (.tup [x, y]) := ⟨by show 2 ≤ sizeLine; decide, [a, b], .cons ra (.cons rb .nil), ht⟩
    have I1 := I.turnedNew (t' := tk) (ch := fp) (fun c o hb q => hk c o (fun z => hb (W1.sub c z)) q) hf hT new
    refine ⟨.ref T, _, I1, rfl, ⟨T, x, y, rfl, I.hok.fresh hT, rfl, hxy⟩, st', fun c hcm => ?_⟩
    obtain ⟨o, ho, _⟩ := obj i _ st c hcm
    rw [upd_ne (Nat.ne_of_lt (Nat.lt_of_lt_of_le (Heap.lt_size ho) hT))]
    exact (hf c hcm).1
  done := by
    intro X hP hw hK hc i pins s σ H E I hf st hg
    subst hP hw hK
    have W1 := W X.A (I.ok.hd hc)
    have e : i = n := by rw [← hn]; exact hg
    subst e
    refine W1.stops s _ E st fun h' tk hk htk => ?_
    exact I.turnedL (t' := tk) (ch := fp) (fun c o hb q => hk c o (fun z => hb (W1.sub c z)) q) hf
  self := self

/-! ### texts, sign by sign -/
def sgn (c : Nat) : V := .str ⟨#[c]⟩
theorem text_obj {h : Heap} {a : Addr} {ty : String} {x : Str} {t : Tok} {i : Nat} (st : h.IsStrIter a ty x t i) : ∃ o, h.get? a = some o ∧ ∀ v, o.data ≠ .cell v := by
  obtain ⟨o, e, c, d⟩ := st
  exact ⟨o, e, fun v z => by rw [d] at z; cases z⟩

def zipS (x y : Str) : List (V × V) := (x.cps.toList.zip y.cps.toList).map fun p => (sgn p.1, sgn p.2)
theorem zipS_len (x y : Str) : (zipS x y).length = min x.cps.size y.cps.size := by simp [zipS]
theorem zipS_get {x y : Str} {i c d : Nat} (h1 : x.cps[i]? = some c) (h2 : y.cps[i]? = some d) : (zipS x y)[i]? = some (sgn c, sgn d) := by
  have e1 : x.cps.toList[i]? = some c := by simpa using h1
  have e2 : y.cps.toList[i]? = some d := by simpa using h2
  unfold zipS
  rw [List.getElem?_map, List.getElem?_zip_eq_some (z := (c, d)) |>.mpr ⟨e1, e2⟩]
  rfl
def iZipS (ta : TA) : TI := fun σ H R => ta σ H fun vs H1 => ∃ x y, vs = [.str x, .str y] ∧ R (ItP (zipS x y)) H1
theorem pi_zipS {X : Cx} {e e2 : Expr} {ta : TA} {p pos tpos : Pos} {elts : List Expr} {kk : Nat} (hg : Gl X "zip") (hm : X.mg "zip" = none) (ha : PA X [e, e2] ta)
    (hs : starEach [e, e2] X.env = (false, eval e X.env) :: starEach [e2] X.env := by rfl) (hpl : (backTo pos (starEach [e2] X.env)).any (·.1) = false := by rfl) (hc : X.calm = true := by rfl) :
    PI X (.Tuple elts kk tpos) (.Call (.Name "zip" p) [e, e2] [] pos) (iZipS ta) := by
  refine ⟨fun pins s σ H R I h => ?_⟩
  refine Call_ (ld_blt I hg hm PyProof.Rows.boot_zip (PyProof.Rows.callWith_type1 (thn (ha.run pos pins s σ H _ I h) fun us s1 ⟨vs, H1, I1, r1, q1⟩ => ?_) hs hpl))
  obtain ⟨x, y, ex, q⟩ := q1
  subst ex
  cases r1 with
  | cons r rr =>
    cases rr with
    | cons r' rr =>
      cases rr
      obtain ⟨t, rfl⟩ := r
      obtain ⟨u, rfl⟩ := r'
      refine zip_begins2 (begins_text x t) (begins_text y u) trivial trivial fun h' hz hTI hTO h1 h2 hsz hk => wpAny_pyIter_zip hz ?_
      have I2 : Inv X pins σ H1 { s1 with heap := h' } := I1.kept (t' := s1.toks) hk
      have i1 : h'.IsStrIter s1.heap.objs.size (strIterType x) x t 0 := ⟨_, h1, rfl, rfl⟩
      have i2 : h'.IsStrIter (s1.heap.objs.size + 1) (strIterType y) y u 0 := ⟨_, h2, rfl, rfl⟩
      refine ⟨s1.heap.objs.size + 4, [s1.heap.objs.size + 4, s1.heap.objs.size + 2, s1.heap.objs.size + 3, s1.heap.objs.size, s1.heap.objs.size + 1], _, ItP (zipS x y), H1, rfl, I2,
        turn_pairs (wr := [s1.heap.objs.size + 4, s1.heap.objs.size + 3, s1.heap.objs.size, s1.heap.objs.size + 1]) (zipS x y) (zipS_len x y) (by simp) (St := fun i h => IsZip h (s1.heap.objs.size + 4) (s1.heap.objs.size + 2) (s1.heap.objs.size + 3) .none ∧ IsTupOf2 h (s1.heap.objs.size + 2) (.ref s1.heap.objs.size) (.ref (s1.heap.objs.size + 1)) ∧ (∃ a1 a2, IsTupOf2 h (s1.heap.objs.size + 3) a1 a2) ∧ h.IsStrIter s1.heap.objs.size (strIterType x) x t i ∧ h.IsStrIter (s1.heap.objs.size + 1) (strIterType y) y u i) ?_ (fun A hA => ?_) X.A (I1.ok.hd hc) (fun A i s Q E st h => wpAny_pyIter_zip st.1 h),
        ⟨hz, hTI, ⟨_, _, hTO⟩, i1, i2⟩, fun c hcm => ?_, q⟩
      · rintro i h ⟨z1, z2, ⟨_, _, z3⟩, z4, z5⟩ b hb
        have e' : b = s1.heap.objs.size + 4 ∨ b = s1.heap.objs.size + 2 ∨ b = s1.heap.objs.size + 3 ∨ b = s1.heap.objs.size ∨ b = s1.heap.objs.size + 1 := by simpa using hb
        rcases e' with q | q | q | q | q
        · rw [q]; exact ⟨_, z1, fun v q => nomatch q⟩
        · rw [q]; exact ⟨_, z2, fun v q => nomatch q⟩
        · rw [q]; exact ⟨_, z3, fun v q => nomatch q⟩
        · rw [q]; exact text_obj z4
        · rw [q]; exact text_obj z5
      · have D1 := Draws.text (prog := X.prog) (w := X.w) (A := A.in1) hA s1.heap.objs.size x t
        have D2 := Draws.text (prog := X.prog) (w := X.w) (A := A.in1) hA (s1.heap.objs.size + 1) y u
        have S : ZipSep2 (s1.heap.objs.size + 4) (s1.heap.objs.size + 2) (s1.heap.objs.size + 3) s1.heap.objs.size (s1.heap.objs.size + 1) [s1.heap.objs.size] [s1.heap.objs.size + 1] :=
          zip_sep2 (N := s1.heap.objs.size) (fp1 := []) (fp2 := []) (fun _ h => nomatch h) (fun _ h => nomatch h)
        refine (GoesN.zip2 S D1 D2).mono fun i h0 v h _ ⟨T, a, b, ev, hT, ⟨c, u1, hc1, ea⟩, ⟨d, u2, hd1, eb⟩, ht⟩ => ⟨T, a, b, ev, hT, ⟨sgn c, sgn d, zipS_get hc1 hd1, ⟨u1, ea⟩, ⟨u2, eb⟩⟩, ht⟩
      · have e' : c = s1.heap.objs.size + 4 ∨ c = s1.heap.objs.size + 2 ∨ c = s1.heap.objs.size + 3 ∨ c = s1.heap.objs.size ∨ c = s1.heap.objs.size + 1 := by simpa using hcm
        have hle : s1.heap.objs.size ≤ c := by
          rcases e' with z | z | z | z | z
          · rw [z]; exact Nat.le_add_right _ _
          · rw [z]; exact Nat.le_add_right _ _
          · rw [z]; exact Nat.le_add_right _ _
          · rw [z]; exact Nat.le_refl _
          · rw [z]; exact Nat.le_add_right _ _
        exact I1.fpOk hle (I1.hok.fresh hle)

def enumS (x : Str) : List (V × V) := x.cps.toList.zipIdx.map fun p => (.int (p.2 : Int), sgn p.1)
theorem enumS_len (x : Str) : (enumS x).length = x.cps.size := by simp [enumS]
theorem enumS_get {x : Str} {i c : Nat} (h1 : x.cps[i]? = some c) : (enumS x)[i]? = some (.int (i : Int), sgn c) := by
  have e1 : x.cps.toList[i]? = some c := by simpa using h1
  unfold enumS
  rw [List.getElem?_map, List.getElem?_zipIdx, e1]
  simp
def iEnumS (ta : TA) : TI := fun σ H R => ta σ H fun vs H1 => ∃ x, vs = [.str x] ∧ R (ItP (enumS x)) H1
theorem pi_enumS {X : Cx} {e : Expr} {ta : TA} {p pos tpos : Pos} {elts : List Expr} {kk : Nat} (hg : Gl X "enumerate") (hm : X.mg "enumerate" = none) (ha : PA X [e] ta) (hs : starEach [e] X.env = [(false, eval e X.env)] := by rfl) (hc : X.calm = true := by rfl) :
    PI X (.Tuple elts kk tpos) (.Call (.Name "enumerate" p) [e] [] pos) (iEnumS ta) := by
  refine ⟨fun pins s σ H R I h => ?_⟩
  refine Call_ (ld_blt I hg hm boot_enumerate (PyProof.Rows.callWith_type1 (thn (ha.run pos pins s σ H _ I h) fun us s1 ⟨vs, H1, I1, r1, q1⟩ => ?_) hs rfl))
  obtain ⟨x, ex, q⟩ := q1
  subst ex
  cases r1 with
  | cons r rr =>
    cases rr
    obtain ⟨t, rfl⟩ := r
    refine call_enumerate_str fun h' he hit hsz hk => wpAny_pyIter_enum he ?_
    have I2 : Inv X pins σ H1 { s1 with heap := h' } := I1.kept (t' := s1.toks) hk
    refine ⟨s1.heap.objs.size + 1, [s1.heap.objs.size + 1, s1.heap.objs.size], _, ItP (enumS x), H1, rfl, I2,
      turn_pairs (wr := [s1.heap.objs.size + 1, s1.heap.objs.size]) (enumS x) (enumS_len x) (by simp) (St := fun i h => (∃ old, IsEnum h (s1.heap.objs.size + 1) s1.heap.objs.size (0 + (i : Int)) old) ∧ h.IsStrIter s1.heap.objs.size (strIterType x) x t i) ?_ (fun A hA => ?_) X.A (I1.ok.hd hc) (fun A i s Q E st h => let ⟨⟨_, he⟩, _⟩ := st; wpAny_pyIter_enum he h), ⟨⟨.none, he⟩, hit⟩, fun c hcm => ?_, q⟩
    · rintro i h ⟨⟨_, z1⟩, z2⟩ b hb
      have e' : b = s1.heap.objs.size + 1 ∨ b = s1.heap.objs.size := by simpa using hb
      rcases e' with q | q
      · rw [q]; exact ⟨_, z1, fun v q => nomatch q⟩
      · rw [q]; exact text_obj z2
    · have D1 := Draws.text (prog := X.prog) (w := X.w) (A := A.in1) hA s1.heap.objs.size x t
      refine (GoesN.enumFrom 0 D1 (s1.heap.objs.size + 1) (Nat.succ_ne_self _) (by simp) (by simp)).mono fun i h0 v h _ ⟨T, u, b, ev, hT, ⟨c, u1, hc1, eb⟩, ht⟩ => ⟨T, _, b, ev, hT, ⟨.int (i : Int), sgn c, enumS_get hc1, ⟨u, by rw [Int.zero_add]⟩, ⟨u1, eb⟩⟩, ht⟩
    · have e' : c = s1.heap.objs.size + 1 ∨ c = s1.heap.objs.size := by simpa using hcm
      have hle : s1.heap.objs.size ≤ c := by
        rcases e' with z | z
        · rw [z]; exact Nat.le_add_right _ _
        · rw [z]; exact Nat.le_refl _
      exact I1.fpOk hle (I1.hok.fresh hle)
end Mi

set_option maxHeartbeats 2000000
namespace Mi
open PySem PySem.Spec PyProof.Rows L2 Evl

/-! ### a def of the text that keeps its promise, as its callers see it -/
structure Has (P : Program) (w : World) (K : PySem.W.Frag) (mg : Str → Option Value) (base : Heap) (k : Nat) (x : Str) (ps : List Str) (sp : Sp) : Prop where
  ex : ∃ f fd, mg x = some (.ref f) ∧ PySem.W.keepIn K (.ref f) = true ∧ FnOk P w K mg base CX0 k f fd ps sp ∧ Binds K fd ps [] ∧
    (ps.length = 1 → ∀ (s : Shared) (w1 : Value), BindsTo s fd ⟨[], ps.zip [w1]⟩ (ps.zip [w1])) ∧
    (∀ p q, ps = [p, q] → ∀ (s : Shared) (w1 w2 : Value), BindsTo s fd ⟨[], [q, p].zip [w1, w2]⟩ ([p, q].zip [w2, w1]))
section
variable {X : Cx} {k : Nat} {ps : List Str} {sp : Sp} {E : XK} {x : Str} {p pos : Pos} {e : Expr} {es : List Expr} {t : TA}
theorem pe_callH (F : Has X.prog X.w X.K X.mg X.base k x ps sp) (hr : Room k X.A) (ha : PA X (e :: es) t) (hg : Gl X x := by rfl) (hdb : (x == ("__debug__" : Str)) = false := by decide)
    (he : starEach (e :: es) X.env = (false, eval e X.env) :: starEach es X.env := by rfl) (hpl : (backTo pos (starEach es X.env)).any (·.1) = false := by rfl) :
    PE X (.Call (.Name x p) (e :: es) [] pos) (tCall sp [] E0 t) := by
  obtain ⟨f, fd, hm, hk, F, hb, _⟩ := F.ex
  exact pe_call F hr hg hm hk hb .nil pass0 ha hdb he hpl
/-- f(q=.., p=..): both parameters by name, in the other order; f(p=..) -/
def tCall2 (sp : Sp) (t1 t2 : TE) : TE := fun σ H Q => tCons t1 (tCons t2 tNil) σ H fun vs H2 => ∃ v1 v2, vs = [v1, v2] ∧ sp [v2, v1] H2 Q E0
theorem pe_callH2 {a b : Str} {e1 e2 : Expr} {t1 t2 : TE} {k1 k2 : Pos} (F : Has X.prog X.w X.K X.mg X.base k x [a, b] sp) (hr : Room k X.A) (h1 : PE X e1 t1) (h2 : PE X e2 t2) (hg : Gl X x := by rfl) (hdb : (x == ("__debug__" : Str)) = false := by decide)
    (hall : (backToKw pos (keywordEach [⟨some b, e1, k1⟩, ⟨some a, e2, k2⟩] X.env)).all (·.1.isSome) = true := by rfl)
    (hks : (backToKw pos (keywordEach [⟨some b, e1, k1⟩, ⟨some a, e2, k2⟩] X.env)).filterMap (·.1) = [b, a] := by rfl)
    (hpl : (backToKw pos (keywordEach [⟨some b, e1, k1⟩, ⟨some a, e2, k2⟩] X.env)).any (·.1.isNone) = false := by rfl) :
    PE X (.Call (.Name x p) [] [⟨some b, e1, k1⟩, ⟨some a, e2, k2⟩] pos) (tCall2 sp t1 t2) := by
  obtain ⟨f, fd, hm, hk, F, _, _, hb2⟩ := F.ex
  have hkw : PK X [⟨some b, e1, k1⟩, ⟨some a, e2, k2⟩] (tCons t1 (tCons t2 tNil)) := pk_cons h1 (pk_cons h2 pk_nil)
  refine ⟨fun pins s σ H Q I h => ?_⟩
  refine wpAny_Call_Name_kw (ld_glob I hg hm ?_ hdb)
  refine PySem.W.callWith_KW0 (h₀ := X.base) I.ok.mod.kin hk hall (thn (hkw.run pos pins s σ H _ I h) fun ws s2 ⟨zs, H2, I2, rz, v1, v2, ez, q2⟩ => ⟨I2.kIn, ?_⟩) hpl
  rw [hks]
  subst ez
  obtain ⟨w1, w2, rfl, r1, r2⟩ := vals2 rz
  refine wpAny_call (codeAny_mono (F.run X.A X.stack s2 H2 ⟨[], [b, a].zip [w1, w2]⟩ [w2, w1] [v2, v1] Q E0 hr I2.env0 (hb2 a b rfl s2 w1 w2) (.cons r2 (.cons r1 .nil)) q2) fun r s' hq => ?_)
  cases r with
  | error e => exact pass0 pins σ H2 s2 e s' I2 hq
  | ok fl =>
    cases fl with
    | ret u => exact I2.after hq
    | next => exact False.elim hq
    | brk => exact False.elim hq
    | cont => exact False.elim hq
def tCall1 (sp : Sp) (t1 : TE) : TE := fun σ H Q => tCons t1 tNil σ H fun vs H2 => ∃ v1, vs = [v1] ∧ sp [v1] H2 Q E0
theorem pe_callH1 {a : Str} {e1 : Expr} {t1 : TE} {k1 : Pos} (F : Has X.prog X.w X.K X.mg X.base k x [a] sp) (hr : Room k X.A) (h1 : PE X e1 t1) (hg : Gl X x := by rfl) (hdb : (x == ("__debug__" : Str)) = false := by decide)
    (hall : (backToKw pos (keywordEach [⟨some a, e1, k1⟩] X.env)).all (·.1.isSome) = true := by rfl)
    (hks : (backToKw pos (keywordEach [⟨some a, e1, k1⟩] X.env)).filterMap (·.1) = [a] := by rfl)
    (hpl : (backToKw pos (keywordEach [⟨some a, e1, k1⟩] X.env)).any (·.1.isNone) = false := by rfl) :
    PE X (.Call (.Name x p) [] [⟨some a, e1, k1⟩] pos) (tCall1 sp t1) := by
  obtain ⟨f, fd, hm, hk, F, _, hb1, _⟩ := F.ex
  have hkw : PK X [⟨some a, e1, k1⟩] (tCons t1 tNil) := pk_cons h1 pk_nil
  refine ⟨fun pins s σ H Q I h => ?_⟩
  refine wpAny_Call_Name_kw (ld_glob I hg hm ?_ hdb)
  refine PySem.W.callWith_KW0 (h₀ := X.base) I.ok.mod.kin hk hall (thn (hkw.run pos pins s σ H _ I h) fun ws s2 ⟨zs, H2, I2, rz, v1, ez, q2⟩ => ⟨I2.kIn, ?_⟩) hpl
  rw [hks]
  subst ez
  obtain ⟨w1, rfl, r1⟩ := vals1 rz
  refine wpAny_call (codeAny_mono (F.run X.A X.stack s2 H2 ⟨[], [a].zip [w1]⟩ [w1] [v1] Q E0 hr I2.env0 (hb1 rfl s2 w1) (.cons r1 .nil) q2) fun r s' hq => ?_)
  cases r with
  | error e => exact pass0 pins σ H2 s2 e s' I2 hq
  | ok fl =>
    cases fl with
    | ret u => exact I2.after hq
    | next => exact False.elim hq
    | brk => exact False.elim hq
    | cont => exact False.elim hq
end

/-! ### text * int -/
def reps (x : Str) (n : Nat) : Str := ⟨((List.replicate n x.cps.toList).flatten).toArray⟩
theorem reps_toList (x : Str) (n : Nat) : (reps x n).cps.toList = (List.replicate n x.cps.toList).flatten := rfl
theorem reps_len (x : Str) (n : Nat) : (reps x n).length = n * x.length := by
  show ((List.replicate n x.cps.toList).flatten).toArray.size = n * x.cps.size
  simp
theorem str_ext {x y : Str} (h : x.cps.toList = y.cps.toList) : x = y := by
  cases x; cases y
  simp only [Str.mk.injEq]
  exact Array.toList_inj.mp h
theorem foldl_reps (x : Array Nat) : ∀ (n : Nat) (acc : Array Nat), ((List.replicate n x).foldl (· ++ ·) acc).toList = acc.toList ++ (List.replicate n x.toList).flatten
  | 0, acc => by simp
  | n + 1, acc => by
    rw [List.replicate_succ, List.foldl_cons, foldl_reps x n (acc ++ x), List.replicate_succ, List.flatten_cons]
    simp
def rMulS : R2 := fun x y H Q => ∃ (z : Str) (n : Nat), x = .str z ∧ y = .int (n : Int) ∧ n ≤ 1000 ∧ z.length ≤ 1000 ∧ Q (.str (reps z n)) H
theorem op_mulS {X : Cx} : OpR X (binaryOp .Mult) rMulS := by
  intro pins s σ H x y v u Q I rx ry h
  obtain ⟨z, n, rfl, rfl, hn, hz, q⟩ := h
  obtain ⟨t, rfl⟩ := rx
  obtain ⟨t', rfl⟩ := ry
  have fin : ∀ (w : Str) (tk : Tok) (k : Nat), w = reps z n → EP X pins σ Q (.str w tk) { s with toks := k } := fun w tk k e => ⟨.str (reps z n), H, I.tok _, ⟨tk, by rw [e]⟩, q⟩
  refine PySem.P.mul_str ?_ (fun h1 h2 => ?_) (fun h1 h2 => ?_) ?_
  · rw [decide_eq_false (by omega), decide_eq_false (by omega)]; rfl
  · have : (1000 : Int) ≤ (2 ^ 63 - 1) / (n : Int) := by
      have h3 : (0 : Int) < n := by omega
      refine (Int.le_ediv_iff_mul_le h3).mpr ?_
      omega
    omega
  · unfold PySem.Builtin.Str.tooLong sizeLine
    have : z.length * (n : Int).toNat ≤ 1000 * 1000 := Nat.mul_le_mul hz (by omega)
    exact decide_eq_false (by omega)
  · by_cases h1 : (n : Int) < 1
    · rw [if_pos h1]
      have e : n = 0 := by omega
      subst e
      exact ⟨by decide, fin _ _ _ (str_ext (by rw [reps_toList]; rfl))⟩
    · rw [if_neg h1]
      by_cases h2 : (((n : Int) == 1 || z.length == 0) = true)
      · rw [if_pos h2]
        refine ⟨.str (reps z n), H, I, ⟨t, ?_⟩, q⟩
        congr 1
        refine str_ext ?_
        rw [reps_toList]
        simp only [Bool.or_eq_true, beq_iff_eq] at h2
        rcases h2 with h2 | h2
        · have e : n = 1 := by omega
          subst e
          simp
        · have e : z.cps.toList = [] := by
            have h3 : z.cps.size = 0 := h2
            simpa using h3
          rw [e]
          simp
      · rw [if_neg h2]
        have e : (⟨(List.replicate (n : Int).toNat z.cps).foldl (· ++ ·) #[]⟩ : Str) = reps z n := str_ext (by
          rw [reps_toList]
          have := foldl_reps z.cps n #[]
          simpa using this)
        refine ⟨?_, fin _ _ _ e⟩
        rw [e]
        have h3 := reps_len z n
        have h4 : n * z.length ≤ 1000 * 1000 := Nat.mul_le_mul hn hz
        rw [sizeLine_eq]
        omega

/-! ### text.replace(A, B), A and B names of the module that hold two texts -/
def tRepG (to : TE) (y z : Str) : TE := fun σ H Q => to σ H fun v H1 => ∃ x, v = .str x ∧ x.length + (x.length + 1) * z.length ≤ 16777216 ∧ Q (.str (Txt.replace x y z)) H1
theorem pe_repG {X : Cx} {o : Expr} {to : TE} {a b y z : Str} {u v : Tok} {pa pb apos pos : Pos} (ho : PE X o to) (ma : X.mg a = some (.str y u)) (mb : X.mg b = some (.str z v)) (hu : u ≠ 0) (hv : v ≠ 0) (huv : u ≠ v) (hyz : (y == z) = false)
    (ga : Gl X a := by rfl) (gb : Gl X b := by rfl) (da : (a == ("__debug__" : Str)) = false := by decide) (db : (b == ("__debug__" : Str)) = false := by decide)
    (hst : starEach [.Name a pa, .Name b pb] X.env = [(false, eval (.Name a pa) X.env), (false, eval (.Name b pb) X.env)] := by rfl)
    (hbase : attributeBase o "replace" X.env (eval o X.env) = eval o X.env := by rfl) (hline : (apos.endLine == pos.line) = true := by rfl) :
    PE X (.Call (.Attribute o "replace" apos) [.Name a pa, .Name b pb] [] pos) (tRepG to y z) := by
  refine ⟨fun pins s σ H Q I h => ?_⟩
  refine PySem.Call_method2 hbase hst hline (thn (ho.run pins s σ H _ I h) fun v' s1 q => ?_)
  obtain ⟨v', H1, I1, r1, x, e1, hb, q⟩ := q
  subst e1
  obtain ⟨tx, e2⟩ := r1
  subst e2
  refine ⟨"str", _, PySem.F.plainAttrs_str, PySem.F.slot_str_replace, PySem.F.type_str_replace, typeIs_str _ _ _, (fun _ e => nomatch e), Calls.callWith_builtin rfl (Calls.evalArgs_plain (Calls.spliced_cons ?_))⟩
  refine ld_glob I1 ga ma (Calls.spliced_cons (ld_glob I1 gb mb (Calls.spliced_nil ?_) db)) da
  exact PySem.SC.replace hu hv huv hyz hb fun t' k => ⟨.str (Txt.replace x y z), H1, I1.tok k, ⟨t', rfl⟩, q⟩
theorem replL_one (a b : Nat) : ∀ l : List Nat, StrLaws.replL [a] [b] l = l.map fun c => if c = a then b else c
  | [] => StrLaws.replL_nil
  | c :: r => by
    by_cases h : c = a
    · subst h
      rw [StrLaws.replL_hit (by simp) (by simp)]
      show [b] ++ StrLaws.replL [c] [b] r = _
      rw [replL_one c b r]
      simp
    · rw [StrLaws.replL_miss (by simpa using h), replL_one a b r]
      simp [h]

/-! ### texts.count(text) -/
def rCntS (K : PySem.W.Frag) : V → List V → Hp → VK → Prop := fun x xs H Q => ∃ (p : Addr) (ys : List Str) (z : Str), x = .ref p ∧ xs = [.str z] ∧ SqL K H p (ys.map V.str) ∧ Q (.int (ys.count z : Nat)) H
def eqs (z : Str) : Value → Bool
  | .str y _ => y == z
  | _ => false
theorem eqs_count (z : Str) : ∀ {ys : List Str} {its : List Value}, Vals (ys.map V.str) its → its.countP (eqs z) = ys.count z
  | [], _, .nil => rfl
  | y :: ys, _, .cons q t => by
    obtain ⟨tk, rfl⟩ := q
    rw [List.countP_cons, List.count_cons, eqs_count z t]
    rfl
theorem eqs_at (z : Str) (t : Tok) (A : Around) (s : Shared) : ∀ {ys : List Str} {its : List Value}, Vals (ys.map V.str) its → ∀ y ∈ its, SeqAt.EqAt A s y (.str z t) (eqs z y)
  | [], _, .nil, _, h => nomatch h
  | x :: ys, _, .cons q r, y, h => by
    rcases List.mem_cons.mp h with e | h
    · subst e
      obtain ⟨tk, rfl⟩ := q
      exact SeqAt.EqAt.str_str x tk z t
    · exact eqs_at z t A s r y h
theorem mt_scount {X : Cx} : MtR X "list.count" (rCntS X.K) := by
  intro pins s σ H x xs v us Q I rx rxs h
  obtain ⟨p, ys, z, rfl, rfl, hs, q⟩ := h
  cases rx
  obtain ⟨u, rfl, ru⟩ := rxs.one
  obtain ⟨t, rfl⟩ := ru
  obtain ⟨its, rv, ⟨⟨cls, dd, data, sl⟩, n, ho, hc, hdn, hd⟩, hlen⟩ := I.list hs
  simp only at hc hd
  subst hc hd
  refine call_meets PySem.F.slot_list_count ⟨_, ho, rfl⟩ PySem.F.entry_list_count (PySem.F.args_list_count_2 _ _)
    (SeqAt.list_countAt p its.toArray n dd sl (.str z t) (eqs z)) ⟨ho, fun y hy => eqs_at z t _ _ rv y (by simpa using hy), ?_⟩
  have ec : its.toArray.toList.countP (eqs z) = ys.count z := eqs_count z rv
  refine ⟨.int (ys.count z : Nat), H, I.tok _, ⟨s.toks, ?_⟩, q⟩
  show Value.int ((its.toArray.toList.countP (eqs z) : Nat) : Int) s.toks = Value.int ((ys.count z : Nat) : Int) s.toks
  rw [ec]
end Mi

set_option maxHeartbeats 2000000
namespace Mi
open PySem PySem.Spec PyProof.Rows L2 Evl

/-! ### what a value is: a flat one, a list that is read, a tracked list, a tuple -/
structure MP where
  p : Hp → V → Prop
  m : ∀ {H H' : Hp} {x : V}, Ex H H' → p H x → p H' x
inductive Dd where
  | D
  | P (q : MP)
  | v (x : V)
  | l (xs : List V)
  | n (xs : List V)
  | u (xs : List V)
  | L (ds : List Dd)
  | N (ds : List Dd)
  | U (ds : List Dd)
mutual
def Is (K : PySem.W.Frag) (H : Hp) : Dd → V → Prop
  | .D, y => ∃ p kvs, y = .ref p ∧ H p = some (.dK kvs)
  | .P q, y => q.p H y
  | .v x, y => y = x
  | .l xs, y => ∃ p, y = .ref p ∧ SqL K H p xs
  | .n xs, y => ∃ p, y = .ref p ∧ H p = some (.lst xs)
  | .u xs, y => ∃ p, y = .ref p ∧ SqT K H p xs
  | .L ds, y => ∃ p vs, y = .ref p ∧ SqL K H p vs ∧ IsE K H ds vs
  | .N ds, y => ∃ p vs, y = .ref p ∧ H p = some (.lst vs) ∧ IsE K H ds vs
  | .U ds, y => ∃ p vs, y = .ref p ∧ SqT K H p vs ∧ IsE K H ds vs
def IsE (K : PySem.W.Frag) (H : Hp) : List Dd → List V → Prop
  | [], vs => vs = []
  | d :: ds, vs => ∃ x r, vs = x :: r ∧ Is K H d x ∧ IsE K H ds r
end
abbrev Dd.i (i : Int) : Dd := .v (.int i)
abbrev Dd.s (x : Str) : Dd := .v (.str x)
abbrev Dd.b (b : Bool) : Dd := .v (.bl b)
abbrev vis (ns : List Int) : List V := ns.map V.int
abbrev vss (ys : List Str) : List V := ys.map V.str
section
variable {K : PySem.W.Frag} {H H' : Hp} {d : Dd} {x y : V}
mutual
theorem Is.mono (e : Ex H H') : ∀ {d : Dd} {x : V}, Is K H d x → Is K H' d x
  | .D, _, h => by obtain ⟨p, kvs, e1, q⟩ := h; exact ⟨p, kvs, e1, e p _ q⟩
  | .P q, _, h => q.m e h
  | .v _, _, h => h
  | .l _, _, h => by obtain ⟨p, e1, q⟩ := h; exact ⟨p, e1, ex_l e q⟩
  | .n _, _, h => by obtain ⟨p, e1, q⟩ := h; exact ⟨p, e1, e p _ q⟩
  | .u _, _, h => by obtain ⟨p, e1, q⟩ := h; exact ⟨p, e1, ex_t e q⟩
  | .L _, _, h => by obtain ⟨p, vs, e1, q, r⟩ := h; exact ⟨p, vs, e1, ex_l e q, IsE.mono e r⟩
  | .N _, _, h => by obtain ⟨p, vs, e1, q, r⟩ := h; exact ⟨p, vs, e1, e p _ q, IsE.mono e r⟩
  | .U _, _, h => by obtain ⟨p, vs, e1, q, r⟩ := h; exact ⟨p, vs, e1, ex_t e q, IsE.mono e r⟩
theorem IsE.mono (e : Ex H H') : ∀ {ds : List Dd} {vs : List V}, IsE K H ds vs → IsE K H' ds vs
  | [], _, h => h
  | _ :: _, _, h => by obtain ⟨x, r, e1, a, b⟩ := h; exact ⟨x, r, e1, Is.mono e a, IsE.mono e b⟩
end
theorem Is.n2l {xs : List V} (h : Is K H (.n xs) x) : Is K H (.l xs) x := by
  obtain ⟨p, e1, q⟩ := h; exact ⟨p, e1, sq_of q⟩
end
def IsAll (K : PySem.W.Frag) (H : Hp) (ds : List Dd) (vs : List V) : Prop := Paired (fun d v => Is K H d v) ds vs

/-! ### what evaluates to what -/
def Er (K : PySem.W.Frag) (te : TE) (σ : L2.St) (H : Hp) (d : Dd) : Prop := ∀ H1, Ex H H1 → ∀ Q : VK, (∀ v H2, Ex H1 H2 → Is K H2 d v → Q v H2) → te σ H1 Q
def Era (K : PySem.W.Frag) (ta : TA) (σ : L2.St) (H : Hp) (ds : List Dd) : Prop := ∀ H1, Ex H H1 → ∀ Q : List V → Hp → Prop, (∀ vs H2, Ex H1 H2 → IsAll K H2 ds vs → Q vs H2) → ta σ H1 Q
def Ro (K : PySem.W.Frag) (r : R2) (d1 d2 d : Dd) : Prop := ∀ x y H1, Is K H1 d1 x → Is K H1 d2 y → ∀ Q : VK, (∀ v H2, Ex H1 H2 → Is K H2 d v → Q v H2) → r x y H1 Q
def Rc (K : PySem.W.Frag) (r : List V → Hp → VK → Prop) (ds : List Dd) (d : Dd) : Prop := ∀ vs H1, IsAll K H1 ds vs → ∀ Q : VK, (∀ v H2, Ex H1 H2 → Is K H2 d v → Q v H2) → r vs H1 Q
section
variable {K : PySem.W.Frag} {σ : L2.St} {H H' : Hp} {te ta tb tc : TE} {t u : TT} {tr : TA} {d d1 d2 d' : Dd} {x y : V} {r : R2}
theorem IsAll.mono (e : Ex H H') : ∀ {ds : List Dd} {vs : List V}, IsAll K H ds vs → IsAll K H' ds vs
  | _, _, .nil => .nil
  | _, _, .cons a b => .cons (a.mono e) (IsAll.mono e b)
theorem Er.mono (e : Ex H H') (h : Er K te σ H d) : Er K te σ H' d := fun H1 a Q q => h H1 (e.trans a) Q q
theorem Er.to (h : Er K te σ H d) (e : d = d') : Er K te σ H d' := e ▸ h
theorem Er.n2l {xs : List V} (h : Er K te σ H (.n xs)) : Er K te σ H (.l xs) := fun H1 a Q q => h H1 a Q fun v H2 e z => q v H2 e z.n2l
theorem er_var {i : Nat} (h : σ[i]? = some (some x)) (hd : Is K H d x) : Er K (tVar i) σ H d := fun H1 e _ q => ⟨x, h, q x H1 (Ex.refl H1) (hd.mono e)⟩
theorem er_v {i : Nat} (h : σ[i]? = some (some x)) : Er K (tVar i) σ H (.v x) := er_var h rfl
theorem er_c : Er K (tC x) σ H (.v x) := fun H1 _ _ q => q x H1 (Ex.refl H1) rfl
theorem er_op (ha : Er K ta σ H d1) (hb : Er K tb σ H d2) (hr : Ro K r d1 d2 d) : Er K (tOp r ta tb) σ H d := fun H1 e Q q =>
  ha H1 e _ fun v1 H2 e2 z1 => hb H2 (e.trans e2) _ fun v2 H3 e3 z2 => hr v1 v2 H3 (z1.mono e3) z2 Q fun v H4 e4 z => q v H4 ((e2.trans e3).trans e4) z
theorem era_nil : Era K tNil σ H [] := fun H1 _ _ q => q [] H1 (Ex.refl H1) .nil
theorem era_cons {ds : List Dd} (h : Er K ta σ H d) (hr : Era K tr σ H ds) : Era K (tCons ta tr) σ H (d :: ds) := fun H1 e _ q =>
  h H1 e _ fun v1 H2 e2 z1 => hr H2 (e.trans e2) _ fun vs H3 e3 z2 => q _ H3 (e2.trans e3) (.cons (z1.mono e3) z2)
theorem er_cb {rc : List V → Hp → VK → Prop} {ds : List Dd} (h : Era K tr σ H ds) (hr : Rc K rc ds d) : Er K (tCB rc tr) σ H d := fun H1 e Q q =>
  h H1 e _ fun vs H2 e2 z => hr vs H2 z Q fun v H3 e3 z3 => q v H3 (e2.trans e3) z3
theorem flat_all {vs : List V} {ws : List V} (h : IsAll K H (vs.map Dd.v) ws) : ws = vs := by
  induction vs generalizing ws with
  | nil => cases h; rfl
  | cons a r ih =>
    cases h with
    | cons h1 h2 =>
      rw [ih h2]
      have e : _ = a := h1
      rw [e]
theorem er_lst {vs : List V} (h : Era K tr σ H (vs.map Dd.v)) (hl : vs.length ≤ 100000) : Er K (tLst tr) σ H (.n vs) := fun H1 e _ q =>
  h H1 e _ fun ws H2 e2 z => by
    have ew := flat_all z
    subst ew
    exact ⟨sz_of hl, fun p hp => q _ _ (e2.trans (Ex.new hp)) ⟨p, rfl, upd_same⟩⟩
theorem er_tup {vs : List V} (h : Era K tr σ H (vs.map Dd.v)) (hl : vs.length ≤ 100000) : Er K (tTup tr) σ H (.u vs) := fun H1 e _ q =>
  h H1 e _ fun ws H2 e2 z => by
    have ew := flat_all z
    subst ew
    exact ⟨sz_of hl, fun p hp => q _ _ (e2.trans (Ex.new hp)) ⟨p, rfl, st_of upd_same⟩⟩

/-! ### operators -/
theorem ro_I0 {g : Int → Int → V} {i j : Int} : Ro K (rI0 g) (.v (.int i)) (.v (.int j)) (.v (g i j)) := by
  rintro _ _ H1 rfl rfl Q q
  exact ⟨i, j, rfl, rfl, q _ H1 (Ex.refl H1) rfl⟩
theorem ro_I {C : Int → Int → Prop} {g : Int → Int → V} {i j : Int} (hc : C i j) : Ro K (rI C g) (.v (.int i)) (.v (.int j)) (.v (g i j)) := by
  rintro _ _ H1 rfl rfl Q q
  exact ⟨i, j, rfl, rfl, hc, q _ H1 (Ex.refl H1) rfl⟩
theorem ro_eq (h : scal x y = true) : Ro K rEq (.v x) (.v y) (.v (.bl (decide (x = y)))) := by
  rintro _ _ H1 rfl rfl Q q
  exact ⟨h, q _ H1 (Ex.refl H1) rfl⟩
theorem ro_ne (h : scal x y = true) : Ro K rNe (.v x) (.v y) (.v (.bl (!decide (x = y)))) := by
  rintro _ _ H1 rfl rfl Q q
  exact ⟨h, q _ H1 (Ex.refl H1) rfl⟩
theorem ro_ixL {xs : List V} {i : Int} (h0 : 0 ≤ i) (h : xs[i.toNat]? = some x) : Ro K (rIxL K) (.l xs) (.v (.int i)) (.v x) := by
  rintro _ _ H1 ⟨p, rfl, hp⟩ rfl Q q
  have e : ((i.toNat : Nat) : Int) = i := Int.toNat_of_nonneg h0
  exact ⟨p, xs, i, x, rfl, rfl, hp, by rw [← e]; exact atI_nat h, q _ H1 (Ex.refl H1) rfl⟩
theorem ro_ixN {xs : List V} {i : Int} (h0 : 0 ≤ i) (h : xs[i.toNat]? = some x) : Ro K (rIxL K) (.n xs) (.v (.int i)) (.v x) := fun v w H1 a b => ro_ixL h0 h v w H1 a.n2l b
theorem ro_ixT {xs : List V} {i : Int} (h0 : 0 ≤ i) (h : xs[i.toNat]? = some x) : Ro K (rIxT K) (.u xs) (.v (.int i)) (.v x) := by
  rintro _ _ H1 ⟨p, rfl, hp⟩ rfl Q q
  have e : ((i.toNat : Nat) : Int) = i := Int.toNat_of_nonneg h0
  exact ⟨p, xs, i, x, rfl, rfl, hp, by rw [← e]; exact atI_nat h, q _ H1 (Ex.refl H1) rfl⟩
theorem ro_ixS {z : Str} {i : Int} {c : Nat} (hz : z.length ≤ 100000) (h0 : 0 ≤ i) (h : z.cps.toList[i.toNat]? = some c) : Ro K rIxS (.v (.str z)) (.v (.int i)) (.v (sgn c)) := by
  rintro _ _ H1 rfl rfl Q q
  have e : ((i.toNat : Nat) : Int) = i := Int.toNat_of_nonneg h0
  exact ⟨z, i, c, rfl, rfl, sz_of hz, by rw [← e]; exact atI_nat h, q _ H1 (Ex.refl H1) rfl⟩
def rAddS2 : R2 := fun x y H Q => ∃ i j, x = .str i ∧ y = .str j ∧ i.length + j.length ≤ sizeLine ∧ Q (.str (i ++ j)) H
theorem op_addS {X : Cx} : OpR X (binaryOp .Add) rAddS2 := op_add_str
theorem ro_addS {a b : Str} (h : a.length + b.length ≤ 100000) : Ro K rAddS2 (.v (.str a)) (.v (.str b)) (.v (.str (a ++ b))) := by
  rintro _ _ H1 rfl rfl Q q
  exact ⟨a, b, rfl, rfl, sz_of h, q _ H1 (Ex.refl H1) rfl⟩
theorem ro_mulS {a : Str} {n : Nat} (hn : n ≤ 1000) (ha : a.length ≤ 1000) : Ro K rMulS (.v (.str a)) (.v (.int (n : Int))) (.v (.str (reps a n))) := by
  rintro _ _ H1 rfl rfl Q q
  exact ⟨a, n, rfl, rfl, hn, ha, q _ H1 (Ex.refl H1) rfl⟩
theorem ro_cat {xs zs : List V} (h : xs.length + zs.length ≤ 100000) : Ro K rCat (.n xs) (.n zs) (.n (xs ++ zs)) := by
  rintro _ _ H1 ⟨p, rfl, hp⟩ ⟨p', rfl, hp'⟩ Q q
  exact ⟨p, p', xs, zs, rfl, rfl, hp, hp', sz_of h, fun l hl => q _ _ (Ex.new hl) ⟨l, rfl, upd_same⟩⟩
theorem ro_rep {xs : List V} {k : Nat} (h : xs.length * k ≤ 100000) (hk : k ≤ 100000) : Ro K rRep (.n xs) (.v (.int (k : Int))) (.n (List.replicate k xs).flatten) := by
  rintro _ _ H1 ⟨p, rfl, hp⟩ rfl Q q
  exact ⟨p, k, xs, rfl, rfl, hp, by omega, by omega, by rw [Int.toNat_natCast]; exact sz_of h, fun l hl => q _ _ (Ex.new hl) ⟨l, rfl, by rw [Int.toNat_natCast]; exact upd_same⟩⟩
theorem ro_inL {neg : Bool} {xs : List V} (hx : flatV x = true) (ha : xs.all flatV = true) : Ro K (rIn K neg) (.v x) (.l xs) (.v (.bl (if neg then !inV x xs else inV x xs))) := by
  rintro _ _ H1 rfl ⟨p, rfl, hp⟩ Q q
  exact ⟨p, xs, rfl, .inl hp, hx, ha, q _ H1 (Ex.refl H1) rfl⟩
theorem ro_inN {neg : Bool} {xs : List V} (hx : flatV x = true) (ha : xs.all flatV = true) : Ro K (rIn K neg) (.v x) (.n xs) (.v (.bl (if neg then !inV x xs else inV x xs))) := fun v w H1 a b => ro_inL hx ha v w H1 a b.n2l
theorem ro_inU {neg : Bool} {xs : List V} (hx : flatV x = true) (ha : xs.all flatV = true) : Ro K (rIn K neg) (.v x) (.u xs) (.v (.bl (if neg then !inV x xs else inV x xs))) := by
  rintro _ _ H1 rfl ⟨p, rfl, hp⟩ Q q
  exact ⟨p, xs, rfl, .inr hp, hx, ha, q _ H1 (Ex.refl H1) rfl⟩
theorem ro_inS {c : Nat} {z : Str} : Ro K rInS (.v (sgn c)) (.v (.str z)) (.v (.bl (decide (c ∈ z.cps.toList)))) := by
  rintro _ _ H1 rfl rfl Q q
  exact ⟨c, z, rfl, rfl, q _ H1 (Ex.refl H1) rfl⟩
theorem ro_niS {c : Nat} {z : Str} : Ro K rNotInS (.v (sgn c)) (.v (.str z)) (.v (.bl (!decide (c ∈ z.cps.toList)))) := by
  rintro _ _ H1 rfl rfl Q q
  exact ⟨c, z, rfl, rfl, q _ H1 (Ex.refl H1) rfl⟩
theorem ro_isN : Ro K rIsN (.v x) (.v .non) (.v (.bl (decide (x = .non)))) := by
  rintro _ _ H1 rfl rfl Q q
  exact ⟨rfl, q _ H1 (Ex.refl H1) rfl⟩
theorem ro_notN : Ro K rNotN (.v x) (.v .non) (.v (.bl (!decide (x = .non)))) := by
  rintro _ _ H1 rfl rfl Q q
  exact ⟨rfl, q _ H1 (Ex.refl H1) rfl⟩
end
end Mi

set_option maxHeartbeats 2000000
namespace Mi
open PySem PySem.Spec PyProof.Rows L2 Evl PySem.W
theorem zipS_at {x y : Str} {i : Nat} {a b : V} (h : (zipS x y)[i]? = some (a, b)) : ∃ c d, x.cps[i]? = some c ∧ y.cps[i]? = some d ∧ a = sgn c ∧ b = sgn d := by
  unfold zipS at h
  rw [List.getElem?_map] at h
  cases e : (x.cps.toList.zip y.cps.toList)[i]? with
  | none => rw [e] at h; cases h
  | some p =>
    rw [e] at h
    obtain ⟨c, d⟩ := p
    have h2 := List.getElem?_zip_eq_some.mp e
    have h3 : (sgn c, sgn d) = (a, b) := Option.some.inj h
    injection h3 with h4 h5
    exact ⟨c, d, by simpa using h2.1, by simpa using h2.2, h4.symm, h5.symm⟩
section
variable {K : PySem.W.Frag} {σ : L2.St} {H H' : Hp} {te ta tb tc : TE} {t u : TT} {tr : TA} {d d1 d2 d' : Dd} {x y : V} {r : R2}

/-! ### lists of whole numbers compared -/
theorem dpAll_ints : ∀ ns : List Int, DpAll K H (vis ns) (ns.map PyData.int)
  | [] => .nil
  | n :: r => .cons (.int n) (dpAll_ints r)
theorem eqv_ints : ∀ ns ms : List Int, PyData.eqvAll (ns.map PyData.int) (ms.map PyData.int) = decide (ns = ms)
  | [], [] => by simp [PyData.eqvAll]
  | [], _ :: _ => by simp [PyData.eqvAll]
  | _ :: _, [] => by simp [PyData.eqvAll]
  | a :: r, b :: t => by
    simp only [List.map_cons, PyData.eqvAll, PyData.eqv, eqv_ints r t]
    by_cases h : a = b <;> by_cases h' : r = t <;> simp [h, h']
theorem shaped_tup (ns : List Int) : SeqAt.shaped (.tuple (ns.map PyData.int)) = true := by
  simp [SeqAt.shaped, PyData.canLay0, PyData.depth, ke_canLayAll0, ke_depthAll]
theorem ro_eqL {ns ms : List Int} : Ro K (rEqD K) (.l (vis ns)) (.l (vis ms)) (.v (.bl (decide (ns = ms)))) := by
  rintro _ _ H1 ⟨p, rfl, hp⟩ ⟨p', rfl, hp'⟩ Q q
  refine ⟨_, _, .lst hp (dpAll_ints ns), .lst hp' (dpAll_ints ms), ke_shaped_ints ns, ke_shaped_ints ms, q _ H1 (Ex.refl H1) ?_⟩
  show V.bl (PyData.eqvAll _ _) = _
  rw [eqv_ints]
theorem ro_neL {ns ms : List Int} : Ro K (rNeD K) (.l (vis ns)) (.l (vis ms)) (.v (.bl (!decide (ns = ms)))) := by
  rintro _ _ H1 ⟨p, rfl, hp⟩ ⟨p', rfl, hp'⟩ Q q
  refine ⟨_, _, .lst hp (dpAll_ints ns), .lst hp' (dpAll_ints ms), ke_shaped_ints ns, ke_shaped_ints ms, q _ H1 (Ex.refl H1) ?_⟩
  show V.bl (!PyData.eqvAll _ _) = _
  rw [eqv_ints]
theorem ro_eqU {ns ms : List Int} : Ro K (rEqD K) (.u (vis ns)) (.u (vis ms)) (.v (.bl (decide (ns = ms)))) := by
  rintro _ _ H1 ⟨p, rfl, hp⟩ ⟨p', rfl, hp'⟩ Q q
  refine ⟨_, _, .tup hp (dpAll_ints ns), .tup hp' (dpAll_ints ms), shaped_tup ns, shaped_tup ms, q _ H1 (Ex.refl H1) ?_⟩
  show V.bl (PyData.eqvAll _ _) = _
  rw [eqv_ints]

/-! ### built-ins -/
def rInt1 : List V → Hp → VK → Prop := fun xs H Q => (∃ i, xs = [.int i] ∧ Q (.int i) H) ∨ ∃ k, xs = [.bl k] ∧ Q (.int (if k then 1 else 0)) H
def rTupS (K : PySem.W.Frag) : List V → Hp → VK → Prop := fun xs H Q => ∃ p ys, xs = [.ref p] ∧ ((SqL K H p ys ∧ ∀ l, H l = none → Q (.ref l) (upd H l (.tup ys))) ∨ (SqT K H p ys ∧ Q (.ref p) H))
def rLenStr : List V → Hp → VK → Prop := fun xs H Q => ∃ z, xs = [.str z] ∧ z.length ≤ sizeLine ∧ Q (.int z.length) H
theorem cr_len {X : Cx} : CallR X (.builtin "len") (rLenS X.K) := call_len_seq
theorem cr_lenStr {X : Cx} : CallR X (.builtin "len") rLenStr := call_len_str
theorem cr_int {X : Cx} : CallR X (.type "int") rInt1 := call_int1
theorem cr_list {X : Cx} : CallR X (.type "list") (rListS X.K) := call_list_of
theorem cr_tuple {X : Cx} : CallR X (.type "tuple") (rTupS X.K) := call_tuple_of
theorem cr_max2 {X : Cx} (hc : X.calm = true := by rfl) : CallR X (.builtin "max") rMax2 := call_max2 hc
theorem cr_isi {X : Cx} : CallR X (.builtin "isinstance") (rIsi X.K) := call_isi
theorem rc_lenL {xs : List V} : Rc K (rLenS K) [.l xs] (.v (.int (xs.length : Int))) := by
  rintro _ H1 (_ | ⟨⟨p, rfl, hp⟩, _ | _⟩) Q q
  exact ⟨p, xs, rfl, .inl hp, q _ H1 (Ex.refl H1) rfl⟩
theorem rc_lenN {xs : List V} : Rc K (rLenS K) [.n xs] (.v (.int (xs.length : Int))) := by
  rintro _ H1 (_ | ⟨⟨p, rfl, hp⟩, _ | _⟩) Q q
  exact ⟨p, xs, rfl, .inl (sq_of hp), q _ H1 (Ex.refl H1) rfl⟩
theorem rc_lenU {xs : List V} : Rc K (rLenS K) [.u xs] (.v (.int (xs.length : Int))) := by
  rintro _ H1 (_ | ⟨⟨p, rfl, hp⟩, _ | _⟩) Q q
  exact ⟨p, xs, rfl, .inr hp, q _ H1 (Ex.refl H1) rfl⟩
theorem rc_lenS {z : Str} (hz : z.length ≤ 100000) : Rc K rLenStr [.v (.str z)] (.v (.int (z.length : Int))) := by
  rintro _ H1 (_ | ⟨rfl, _ | _⟩) Q q
  exact ⟨z, rfl, sz_of hz, q _ H1 (Ex.refl H1) rfl⟩
theorem rc_int {i : Int} : Rc K rInt1 [.v (.int i)] (.v (.int i)) := by
  rintro _ H1 (_ | ⟨rfl, _ | _⟩) Q q
  exact .inl ⟨i, rfl, q _ H1 (Ex.refl H1) rfl⟩
theorem rc_intB {b : Bool} : Rc K rInt1 [.v (.bl b)] (.v (.int (if b then 1 else 0))) := by
  rintro _ H1 (_ | ⟨rfl, _ | _⟩) Q q
  exact .inr ⟨b, rfl, q _ H1 (Ex.refl H1) rfl⟩
theorem rc_max2 {i j : Int} : Rc K rMax2 [.v (.int i), .v (.int j)] (.v (.int (if j > i then j else i))) := by
  rintro _ H1 (_ | ⟨rfl, _ | ⟨rfl, _ | _⟩⟩) Q q
  exact ⟨i, j, rfl, q _ H1 (Ex.refl H1) rfl⟩
theorem rc_listL {xs : List V} : Rc K (rListS K) [.l xs] (.n xs) := by
  rintro _ H1 (_ | ⟨⟨p, rfl, hp⟩, _ | _⟩) Q q
  exact ⟨p, xs, rfl, .inl hp, fun l hl => q _ _ (Ex.new hl) ⟨l, rfl, upd_same⟩⟩
theorem rc_listU {xs : List V} : Rc K (rListS K) [.u xs] (.n xs) := by
  rintro _ H1 (_ | ⟨⟨p, rfl, hp⟩, _ | _⟩) Q q
  exact ⟨p, xs, rfl, .inr hp, fun l hl => q _ _ (Ex.new hl) ⟨l, rfl, upd_same⟩⟩
theorem rc_tupL {xs : List V} : Rc K (rTupS K) [.l xs] (.u xs) := by
  rintro _ H1 (_ | ⟨⟨p, rfl, hp⟩, _ | _⟩) Q q
  exact ⟨p, xs, rfl, .inl ⟨hp, fun l hl => q _ _ (Ex.new hl) ⟨l, rfl, st_of upd_same⟩⟩⟩
theorem rc_tupN {xs : List V} : Rc K (rTupS K) [.n xs] (.u xs) := fun vs H1 h Q q => by
  cases h with
  | cons a b => exact rc_tupL _ H1 (.cons a.n2l b) Q q
/-- isinstance(x, T) -/
theorem rc_isi {n : String} {b : Bool} (t : Value) (ht : ∀ H1 v, Is K H1 d v → TyX K H1 v t) (hk : PySem.W.kitOne K t (.type n) = some b) : Rc K (rIsi K) [d, .v (.ty n)] (.v (.bl b)) := by
  rintro _ H1 (_ | ⟨hd, _ | ⟨rfl, _ | _⟩⟩) Q q
  exact ⟨_, _, t, .type n, b, rfl, .ty n, ht _ _ hd, hk, q _ H1 (Ex.refl H1) rfl⟩
theorem ty_u {xs : List V} {H1 : Hp} {v : V} (h : Is K H1 (.u xs) v) : TyX K H1 v (.type "tuple") := by
  obtain ⟨p, rfl, hp⟩ := h
  rcases hp with (hp | ⟨o, hp⟩) | ⟨o, its, n, h1, h2, _⟩
  · exact .base (.tup hp)
  · exact .fTuple hp
  · exact .kTuple h1 h2
theorem ty_l {xs : List V} {H1 : Hp} {v : V} (h : Is K H1 (.l xs) v) : TyX K H1 v (.type "list") := by
  obtain ⟨p, rfl, hp⟩ := h
  rcases hp with (hp | ⟨o, hp⟩) | ⟨o, its, n, h1, h2, _⟩
  · exact .base (.lst hp)
  · exact .base (.frz hp)
  · exact .kList h1 h2
theorem rc_isi_int {n : String} {i : Int} {b : Bool} (h : kitB "int" n = some b) : Rc K (rIsi K) [.v (.int i), .v (.ty n)] (.v (.bl b)) := rc_isi (.type "int") (fun _ _ e => by rw [show _ = V.int i from e]; exact .base (.int i)) (kit_ty h)
theorem rc_isi_str {n : String} {i : Str} {b : Bool} (h : kitB "str" n = some b) : Rc K (rIsi K) [.v (.str i), .v (.ty n)] (.v (.bl b)) := rc_isi (.type "str") (fun _ _ e => by rw [show _ = V.str i from e]; exact .base (.str i)) (kit_ty h)
theorem rc_isi_bl {n : String} {i : Bool} {b : Bool} (h : kitB "bool" n = some b) : Rc K (rIsi K) [.v (.bl i), .v (.ty n)] (.v (.bl b)) := rc_isi (.type "bool") (fun _ _ e => by rw [show _ = V.bl i from e]; exact .base (.bl i)) (kit_ty h)
theorem rc_isi_non {n : String} {b : Bool} (h : kitB "NoneType" n = some b) : Rc K (rIsi K) [.v .non, .v (.ty n)] (.v (.bl b)) := rc_isi (.type "NoneType") (fun _ _ e => by rw [show _ = V.non from e]; exact .base .non) (kit_ty h)
theorem rc_isi_u {n : String} {xs : List V} {b : Bool} (h : kitB "tuple" n = some b) : Rc K (rIsi K) [.u xs, .v (.ty n)] (.v (.bl b)) := rc_isi (.type "tuple") (fun _ _ e => ty_u e) (kit_ty h)
theorem rc_isi_l {n : String} {xs : List V} {b : Bool} (h : kitB "list" n = some b) : Rc K (rIsi K) [.l xs, .v (.ty n)] (.v (.bl b)) := rc_isi (.type "list") (fun _ _ e => ty_l e) (kit_ty h)

/-! ### methods -/
def Rm (K : PySem.W.Frag) (T : String) (r : V → List V → Hp → VK → Prop) (d0 : Dd) (ds : List Dd) (d : Dd) : Prop :=
  (∀ x H1, Is K H1 d0 x → tyV K T x H1) ∧ ∀ x vs H1, Is K H1 d0 x → IsAll K H1 ds vs → ∀ Q : VK, (∀ v H2, Ex H1 H2 → Is K H2 d v → Q v H2) → r x vs H1 Q
theorem er_bm {T : String} {rm : V → List V → Hp → VK → Prop} {ds : List Dd} {d0 : Dd} {to : TE} (ho : Er K to σ H d0) (h : Era K tr σ H ds) (hr : Rm K T rm d0 ds d) : Er K (tBM K T rm to tr) σ H d := fun H1 e Q q =>
  ho H1 e _ fun x H2 e2 z => ⟨hr.1 x H2 z, h H2 (e.trans e2) _ fun vs H3 e3 z3 => hr.2 x vs H3 (z.mono e3) z3 Q fun v H4 e4 z4 => q v H4 ((e2.trans e3).trans e4) z4⟩
def rJoin (K : PySem.W.Frag) : V → List V → Hp → VK → Prop := fun x xs H Q => ∃ a p, ∃ ys : List Str, x = .str a ∧ xs = [.ref p] ∧ (SqL K H p (ys.map V.str) ∨ SqT K H p (ys.map V.str)) ∧ (ys.map (·.length)).sum + ys.length * a.length ≤ 16777216 ∧ Q (.str (Txt.join a ys)) H
theorem mt_joinN {X : Cx} : MtR X "str.join" (rJoin X.K) := mt_join
def rSIndex : V → List V → Hp → VK → Prop := fun x xs H Q => ∃ a b i rest, x = .str a ∧ xs = [.str b] ∧ Builtin.Str.occurrences a b 0 a.length 1 = i :: rest ∧ Q (.int (i : Nat)) H
theorem mt_sindexN {X : Cx} : MtR X "str.index" rSIndex := mt_sindex
theorem rm_join {a : Str} {ys : List Str} (hz : (ys.map (·.length)).sum + ys.length * a.length ≤ 100000) : Rm K "str" (rJoin K) (.v (.str a)) [.n (vss ys)] (.v (.str (Txt.join a ys))) := by
  refine ⟨fun x H1 e => ?_, ?_⟩
  · rw [show x = V.str a from e]; exact rfl
  · rintro _ _ H1 rfl (_ | ⟨⟨p, rfl, hp⟩, _ | _⟩) Q q
    exact ⟨a, p, ys, rfl, rfl, .inl (sq_of hp), by omega, q _ H1 (Ex.refl H1) rfl⟩
theorem rm_sindex {a b : Str} {i : Nat} {rest : List Nat} (h : Builtin.Str.occurrences a b 0 a.length 1 = i :: rest) : Rm K "str" rSIndex (.v (.str a)) [.v (.str b)] (.v (.int (i : Int))) := by
  refine ⟨fun x H1 e => ?_, ?_⟩
  · rw [show x = V.str a from e]; exact rfl
  · rintro _ _ H1 rfl (_ | ⟨rfl, _ | _⟩) Q q
    exact ⟨a, b, i, rest, rfl, rfl, h, q _ H1 (Ex.refl H1) rfl⟩
theorem rm_count {ys : List Str} {z : Str} : Rm K "list" (rCntS K) (.l (vss ys)) [.v (.str z)] (.v (.int (ys.count z : Nat))) := by
  refine ⟨fun x H1 e => ?_, ?_⟩
  · obtain ⟨p, rfl, hp⟩ := e
    exact .inl ⟨rfl, _, hp⟩
  · rintro _ _ H1 ⟨p, rfl, hp⟩ (_ | ⟨rfl, _ | _⟩) Q q
    exact ⟨p, ys, z, rfl, rfl, hp, q _ H1 (Ex.refl H1) rfl⟩
theorem er_repG {a y z : Str} (h : Er K te σ H (.v (.str a))) (hz : a.length ≤ 1000) (hz2 : z.length ≤ 1000) : Er K (tRepG te y z) σ H (.v (.str (Txt.replace a y z))) := fun H1 e Q q =>
  h H1 e _ fun v H2 e2 z2 => ⟨a, z2, by
    have : (a.length + 1) * z.length ≤ 1001 * 1000 := Nat.mul_le_mul (by omega) hz2
    omega, q _ H2 e2 rfl⟩

/-! ### slices -/
def Eo (to : TO) (σ : L2.St) (H : Hp) (o : Option Int) : Prop := EvO to σ H o
theorem eo_non : EvO tNoPart σ H none := eo_none
theorem eo_of {i : Int} (h : Er K te σ H (.v (.int i))) : EvO (tPart te) σ H (some i) := fun H1 e _ q => h H1 e _ fun v H2 e2 z => ⟨i, z, q H2 e2⟩
theorem er_slL {tl th : TO} {xs : List V} {lo hi : Option Int} (h : Er K te σ H (.l xs)) (h1 : EvO tl σ H lo) (h2 : EvO th σ H hi) : Er K (tSl (rSlL K) te tl th) σ H (.n (cutV xs lo hi)) := fun H1 e _ q =>
  h H1 e _ fun v H2 e2 ⟨p, ep, hp⟩ => h1 H2 (e.trans e2) _ fun H3 e3 => h2 H3 ((e.trans e2).trans e3) _ fun H4 e4 => by
    subst ep
    exact ⟨p, xs, rfl, ex_l (e3.trans e4) hp, fun l hl => q _ _ (((e2.trans e3).trans e4).trans (Ex.new hl)) ⟨l, rfl, upd_same⟩⟩
theorem er_slS {tl th : TO} {z : Str} {lo hi : Option Int} (h : Er K te σ H (.v (.str z))) (hz : z.length ≤ 100000) (h1 : EvO tl σ H lo) (h2 : EvO th σ H hi) : Er K (tSl rSlS te tl th) σ H (.v (.str (cutS z lo hi))) := fun H1 e _ q =>
  h H1 e _ fun v H2 e2 ev => h1 H2 (e.trans e2) _ fun H3 e3 => h2 H3 ((e.trans e2).trans e3) _ fun H4 e4 => ⟨z, ev, sz_of hz, q _ H4 ((e2.trans e3).trans e4) rfl⟩

/-! ### tests, choices -/
theorem et_t {b : Bool} (h : Er K te σ H (.v (.bl b))) : EvT (tTest te) σ H b := fun H1 e _ q => h H1 e _ fun v H2 e2 z => ⟨b, z, q H2 e2⟩
theorem et_v {b : Bool} (h : Er K te σ H (.v (.bl b))) : EvT (tB te) σ H b := fun H1 e _ q => h H1 e _ fun v H2 e2 z => ⟨b, z, q H2 e2⟩
theorem er_if {b : Bool} (h : EvT t σ H b) (h1 : b = true → Er K ta σ H d) (h2 : b = false → Er K tb σ H d) : Er K (tIf t ta tb) σ H d := fun H1 e Q q => h H1 e _ fun H2 e2 => by
  cases b with
  | true =>
    show ta σ H2 Q
    exact h1 rfl H2 (e.trans e2) Q fun v H3 e3 z => q v H3 (e2.trans e3) z
  | false =>
    show tb σ H2 Q
    exact h2 rfl H2 (e.trans e2) Q fun v H3 e3 z => q v H3 (e2.trans e3) z
theorem er_andV {a b : Bool} (h1 : Er K ta σ H (.v (.bl a))) (h2 : a = true → Er K tb σ H (.v (.bl b))) : Er K (tAndV ta tb) σ H (.v (.bl (a && b))) := fun H1 e Q q => h1 H1 e _ fun v H2 e2 z => ⟨a, z, by
  cases a with
  | true =>
    show tb σ H2 Q
    exact h2 rfl H2 (e.trans e2) Q fun v H3 e3 z => q v H3 (e2.trans e3) z
  | false =>
    show Q (.bl false) H2
    exact q _ H2 e2 rfl⟩
theorem er_orV {a b : Bool} (h1 : Er K ta σ H (.v (.bl a))) (h2 : a = false → Er K tb σ H (.v (.bl b))) : Er K (tOrV ta tb) σ H (.v (.bl (a || b))) := fun H1 e Q q => h1 H1 e _ fun v H2 e2 z => ⟨a, z, by
  cases a with
  | true =>
    show Q (.bl true) H2
    exact q _ H2 e2 rfl
  | false =>
    show tb σ H2 Q
    exact h2 rfl H2 (e.trans e2) Q fun v H3 e3 z => q v H3 (e2.trans e3) z⟩
theorem er_notV {a : Bool} (h1 : Er K ta σ H (.v (.bl a))) : Er K (tNotV ta) σ H (.v (.bl (!a))) := fun H1 e Q q => h1 H1 e _ fun v H2 e2 z => ⟨a, z, q _ H2 e2 rfl⟩

/-! ### calls of the text's own defs -/
def spR (K : PySem.W.Frag) {A : Type} (pre : A → Prop) (args : A → List Dd) (ret : A → Dd) : Sp := fun vs H Q _ => ∃ a : A, pre a ∧ IsAll K H (args a) vs ∧ ∀ v H', Ex H H' → Is K H' (ret a) v → Q v H'
theorem er_call {A : Type} {pre : A → Prop} {args : A → List Dd} {ret : A → Dd} {E : XK} {ds : List Dd} (a : A) (h : Era K tr σ H ds) (hd : ds = args a) (hp : pre a) : Er K (tCall (spR K pre args ret) [] E tr) σ H (ret a) := fun H1 e Q q =>
  h H1 e _ fun vs H2 e2 z => by
    rw [List.append_nil]
    exact ⟨a, hp, hd ▸ z, fun v H' e3 z3 => q v H' (e2.trans e3) z3⟩
theorem er_call2 {A : Type} {pre : A → Prop} {args : A → List Dd} {ret : A → Dd} (a : A) (h1 : Er K ta σ H d1) (h2 : Er K tb σ H d2) (hd : [d2, d1] = args a) (hp : pre a) : Er K (tCall2 (spR K pre args ret) ta tb) σ H (ret a) := fun H1 e Q q =>
  h1 H1 e _ fun v1 H2 e2 z1 => h2 H2 (e.trans e2) _ fun v2 H3 e3 z2 => ⟨v1, v2, rfl, a, hp, hd ▸ .cons z2 (.cons (z1.mono e3) .nil), fun v H' e4 z => q v H' ((e2.trans e3).trans e4) z⟩
theorem er_call1 {A : Type} {pre : A → Prop} {args : A → List Dd} {ret : A → Dd} (a : A) (h1 : Er K ta σ H d1) (hd : [d1] = args a) (hp : pre a) : Er K (tCall1 (spR K pre args ret) ta) σ H (ret a) := fun H1 e Q q =>
  h1 H1 e _ fun v1 H2 e2 z1 => ⟨v1, rfl, a, hp, hd ▸ .cons z1 .nil, fun v H' e4 z => q v H' (e2.trans e4) z⟩

/-! ### statements -/
variable {D : Ends} {tu tw tz : TS} {g : TG}
theorem a_asg {i : Nat} (h : Er K te σ H d) (k : ∀ v H1, Ex H H1 → Is K H1 d v → tz D (σ.set i (some v)) H1) : tSeq (tAsg te (gName i)) tz D σ H := h H (Ex.refl H) _ fun v H1 e z => k v H1 e z
theorem a_asg1 {i : Nat} (h : Er K te σ H d) (k : ∀ v H1, Ex H H1 → Is K H1 d v → D.nx (σ.set i (some v)) H1) : tAsg te (gName i) D σ H := h H (Ex.refl H) _ fun v H1 e z => k v H1 e z
theorem a_ret (h : Er K te σ H d) (k : ∀ v H1, Ex H H1 → Is K H1 d v → D.rt v H1) : tRet te D σ H := h H (Ex.refl H) _ k
/-- a new list that will grow -/
theorem a_new {i : Nat} (k : ∀ p H1, H p = none → Ex H H1 → H1 p = some (.lst []) → tz D (σ.set i (some (.ref p))) H1) : tSeq (tAsg (tLst tNil) (gName i)) tz D σ H :=
  ⟨Nat.zero_le _, fun p hp => k p _ hp (Ex.new hp) upd_same⟩
theorem a_app {l : Addr} {xs : List V} (hl : H l = some (.lst xs)) (ha : Er K ta σ H (.v (.ref l))) (h : Er K te σ H (.v x)) (hz : xs.length < 100000) (k : ∀ H1, Ex H H1 → D.nx σ (upd H1 l (.lst (xs ++ [x])))) :
    tDrop (tBM K "list" rAppend ta (tCons te tNil)) D σ H := ha H (Ex.refl H) _ fun v H1 e1 z1 => by
  have ez : v = .ref l := z1
  subst ez
  exact ⟨Or.inl ⟨rfl, xs, sq_of (e1 l _ hl)⟩, h H1 e1 _ fun v H2 e2 z2 => by
    have e3 : v = x := z2
    subst e3
    exact ⟨l, xs, v, rfl, rfl, e2 l _ (e1 l _ hl), sz_lt hz, k H2 (e1.trans e2)⟩⟩
theorem b_app {l : Addr} {xs : List V} (hl : H l = some (.lst xs)) (ha : Er K ta σ H (.v (.ref l))) (h : Er K te σ H (.v x)) (hz : xs.length < 100000) (k : ∀ H1, Ex H H1 → tz D σ (upd H1 l (.lst (xs ++ [x])))) :
    tSeq (tDrop (tBM K "list" rAppend ta (tCons te tNil))) tz D σ H := a_app (D := { D with nx := tz D }) hl ha h hz k
theorem a_forR1 {ta : TA} {j : Nat} {n : Nat} (h : Era K ta σ H [.v (.int (n : Int))]) (hn : n ≤ 100000) (Pv : Nat → L2.St → Hp → Prop) (h0 : ∀ H1, Ex H H1 → Pv 0 σ H1)
    (hs : ∀ (i : Nat) σ' H', i < n → Pv i σ' H' → tu { D with nx := Pv (i + 1), ct := Pv (i + 1), bk := D.nx } (σ'.set j (some (.int (i : Int)))) H') (hd : ∀ σ' H', Pv n σ' H' → D.nx σ' H') : tFor (iRng1 ta) (gName j) tu D σ H :=
  h H (Ex.refl H) _ fun vs H1 e z => by
    rcases z with _ | ⟨rfl, _ | _⟩
    exact ⟨(n : Int), rfl, by omega, by omega, for_range (lo := 0) (n := (n : Int).toNat) Pv (h0 H1 e) (fun i σ' H' hi p => by
      have e0 : (0 : Int) + (i : Int) = (i : Int) := Int.zero_add _
      show tu { D with nx := Pv (i + 1), ct := Pv (i + 1), bk := D.nx } (σ'.set j (some (.int ((0 : Int) + (i : Int))))) H'
      rw [e0]
      exact hs i σ' H' (by omega) p) (by rw [Int.toNat_natCast]; exact hd)⟩
theorem b_forR1 {ta : TA} {j : Nat} {n : Nat} (h : Era K ta σ H [.v (.int (n : Int))]) (hn : n ≤ 100000) (Pv : Nat → L2.St → Hp → Prop) (h0 : ∀ H1, Ex H H1 → Pv 0 σ H1)
    (hs : ∀ (i : Nat) σ' H', i < n → Pv i σ' H' → tu { D with nx := Pv (i + 1), ct := Pv (i + 1), bk := tz D } (σ'.set j (some (.int (i : Int)))) H') (hd : ∀ σ' H', Pv n σ' H' → tz D σ' H') : tSeq (tFor (iRng1 ta) (gName j) tu) tz D σ H :=
  a_forR1 (D := { D with nx := tz D }) h hn Pv h0 hs hd
/-- a loop over a list that stands at a: its place among the slots is known -/
theorem a_forA {a : Addr} {xs : List V} {tl : TE} {j : Nat} (h : Er K tl σ H (.v (.ref a))) (hx : SqL K H a xs) (Pv : Nat → L2.St → Hp → Prop) (h0 : ∀ H1, Ex H H1 → Pv 0 σ H1) (hl : ∀ i σ' H', i ≤ xs.length → Pv i σ' H' → SqL K H' a xs)
    (hs : ∀ i x σ' H', xs[i]? = some x → Pv i σ' H' → tu { D with nx := Pv (i + 1), ct := Pv (i + 1), bk := D.nx } (σ'.set j (some x)) H') (hd : ∀ σ' H', Pv xs.length σ' H' → D.nx σ' H') : tFor (iList K tl) (gName j) tu D σ H :=
  h H (Ex.refl H) _ fun v H1 e z => by
    have ez : v = .ref a := z
    subst ez
    exact ⟨a, rfl, ⟨xs, ex_l e hx⟩, for_list Pv (h0 H1 e) hl hs hd⟩
theorem b_forA {a : Addr} {xs : List V} {tl : TE} {j : Nat} (h : Er K tl σ H (.v (.ref a))) (hx : SqL K H a xs) (Pv : Nat → L2.St → Hp → Prop) (h0 : ∀ H1, Ex H H1 → Pv 0 σ H1) (hl : ∀ i σ' H', i ≤ xs.length → Pv i σ' H' → SqL K H' a xs)
    (hs : ∀ i x σ' H', xs[i]? = some x → Pv i σ' H' → tu { D with nx := Pv (i + 1), ct := Pv (i + 1), bk := tz D } (σ'.set j (some x)) H') (hd : ∀ σ' H', Pv xs.length σ' H' → tz D σ' H') : tSeq (tFor (iList K tl) (gName j) tu) tz D σ H :=
  a_forA (D := { D with nx := tz D }) h hx Pv h0 hl hs hd
/-- a loop over a list wherever it stands; nothing that stood ahead of the loop is changed -/
theorem a_forL {xs : List V} {tl : TE} {j : Nat} (h : Er K tl σ H (.l xs)) (Pv : Hp → Nat → L2.St → Hp → Prop) (h0 : ∀ H1, Ex H H1 → Pv H1 0 σ H1) (hl : ∀ H1 i σ' H', Pv H1 i σ' H' → Ex H1 H')
    (hs : ∀ H1 i x σ' H', Ex H H1 → xs[i]? = some x → Pv H1 i σ' H' → tu { D with nx := Pv H1 (i + 1), ct := Pv H1 (i + 1), bk := D.nx } (σ'.set j (some x)) H') (hd : ∀ H1 σ' H', Ex H H1 → Pv H1 xs.length σ' H' → D.nx σ' H') : tFor (iList K tl) (gName j) tu D σ H :=
  h H (Ex.refl H) _ fun v H1 e ⟨p, ep, hp⟩ => by
    subst ep
    exact ⟨p, rfl, ⟨xs, hp⟩, for_list (Pv H1) (h0 H1 e) (fun i σ' H' _ q => ex_l (hl H1 i σ' H' q) hp) (fun i x σ' H' hx q => hs H1 i x σ' H' e hx q) (fun σ' H' q => hd H1 σ' H' e q)⟩
theorem b_forL {xs : List V} {tl : TE} {j : Nat} (h : Er K tl σ H (.l xs)) (Pv : Hp → Nat → L2.St → Hp → Prop) (h0 : ∀ H1, Ex H H1 → Pv H1 0 σ H1) (hl : ∀ H1 i σ' H', Pv H1 i σ' H' → Ex H1 H')
    (hs : ∀ H1 i x σ' H', Ex H H1 → xs[i]? = some x → Pv H1 i σ' H' → tu { D with nx := Pv H1 (i + 1), ct := Pv H1 (i + 1), bk := tz D } (σ'.set j (some x)) H') (hd : ∀ H1 σ' H', Ex H H1 → Pv H1 xs.length σ' H' → tz D σ' H') : tSeq (tFor (iList K tl) (gName j) tu) tz D σ H :=
  a_forL (D := { D with nx := tz D }) h Pv h0 hl hs hd

/-! ### loops over pairs in new tuples -/
theorem for_P {ps : List (V × V)} {g : TG} {tb : TS} {D : Ends} {σ : L2.St} {H : Hp} (Pv : Nat → L2.St → Hp → Prop) (h0 : Pv 0 σ H)
    (hs : ∀ (i : Nat) (x y : V) (T : Addr) σ H, ps[i]? = some (x, y) → Pv i σ H → H T = none → g (.ref T) σ (upd H T (.tup [x, y])) fun σ2 H2 => tb { D with nx := Pv (i + 1), ct := Pv (i + 1), bk := D.nx } σ2 H2) (hd : ∀ σ H, Pv ps.length σ H → D.nx σ H) :
    ∃ W : Nat → Nat → L2.St → Hp → Prop, (∃ m, W 0 m σ H) ∧ ∀ i m σ H, W i m σ H →
      ((ItP ps).stop i H ∧ D.nx σ H) ∨ ((ItP ps).go i H ∧ ∃ N : L2.St → Hp → Prop, (∀ σ' H', N σ' H' → ∃ m', m' < m ∧ W (i + 1) m' σ' H') ∧ ∀ v H', (ItP ps).yld i H v H' → g v σ H' fun σ2 H2 => tb { D with nx := N, ct := N, bk := D.nx } σ2 H2) := by
  refine ⟨fun i m σ H => m = ps.length - i ∧ i ≤ ps.length ∧ Pv i σ H, ⟨ps.length, by simp, Nat.zero_le _, h0⟩, ?_⟩
  rintro i m σ H ⟨rfl, hi, p⟩
  by_cases hlt : i < ps.length
  · refine .inr ⟨hlt, Pv (i + 1), fun σ' H' p' => ⟨ps.length - (i + 1), by omega, rfl, hlt, p'⟩, fun v H' y => ?_⟩
    obtain ⟨T, x, y, rfl, hT, rfl, hxy⟩ := y
    exact hs i x y T σ H hxy p hT
  · have e : i = ps.length := by omega
    subst e
    exact .inl ⟨rfl, hd σ H p⟩
/-- for a, b in zip(one, two), two texts, the names in slots j1, j2 -/
theorem a_forZ {ta : TA} {j1 j2 : Nat} {one two : Str} (h : Era K ta σ H [.v (.str one), .v (.str two)]) (Pv : Nat → L2.St → Hp → Prop) (h0 : ∀ H1, Ex H H1 → Pv 0 σ H1)
    (hs : ∀ i c1 c2 σ' H' H2, one.cps[i]? = some c1 → two.cps[i]? = some c2 → Pv i σ' H' → Ex H' H2 → tu { D with nx := Pv (i + 1), ct := Pv (i + 1), bk := D.nx } ((σ'.set j1 (some (sgn c1))).set j2 (some (sgn c2))) H2)
    (hd : ∀ σ' H', Pv (min one.length two.length) σ' H' → D.nx σ' H') : tFor (iZipS ta) (gTup K 2 (gCons (gName j1) (gCons (gName j2) gNil))) tu D σ H :=
  h H (Ex.refl H) _ fun vs H1 e z => by
    rcases z with _ | ⟨rfl, _ | ⟨rfl, _ | _⟩⟩
    refine ⟨one, two, rfl, for_P Pv (h0 H1 e) (fun i x y T σ' H' hxy p hT => ?_) (fun σ' H' p => hd σ' H' (by rw [zipS_len] at p; exact p))⟩
    obtain ⟨c1, c2, h1, h2, e1, e2⟩ := zipS_at hxy
    subst e1
    subst e2
    exact ⟨T, [_, _], rfl, st_of upd_same, rfl, _, [_], rfl, _, [], rfl, rfl, hs i c1 c2 σ' H' _ h1 h2 p (Ex.new hT)⟩
theorem b_forZ {ta : TA} {j1 j2 : Nat} {one two : Str} (h : Era K ta σ H [.v (.str one), .v (.str two)]) (Pv : Nat → L2.St → Hp → Prop) (h0 : ∀ H1, Ex H H1 → Pv 0 σ H1)
    (hs : ∀ i c1 c2 σ' H' H2, one.cps[i]? = some c1 → two.cps[i]? = some c2 → Pv i σ' H' → Ex H' H2 → tu { D with nx := Pv (i + 1), ct := Pv (i + 1), bk := tz D } ((σ'.set j1 (some (sgn c1))).set j2 (some (sgn c2))) H2)
    (hd : ∀ σ' H', Pv (min one.length two.length) σ' H' → tz D σ' H') : tSeq (tFor (iZipS ta) (gTup K 2 (gCons (gName j1) (gCons (gName j2) gNil))) tu) tz D σ H :=
  a_forZ (D := { D with nx := tz D }) h Pv h0 hs hd
theorem q_tCut {M : L2.St → Hp → Prop} (h : tu { D with nx := M } σ H) (k : ∀ σ' H', M σ' H' → tz D σ' H') : tCut tu tz D σ H := ⟨M, h, k⟩
end

/-! ### list comprehensions whose items are flat -/
section
variable {K : PySem.W.Frag} {σ : L2.St} {H H' : Hp} {te tl : TE} {t : TT} {ta : TA}
/-- what has been made behind i turns -/
def acc {α : Type} (its : List α) (f : α → Bool) (g : α → V) (i : Nat) : List V := ((its.take i).filter f).map g
theorem acc_next {α : Type} {its : List α} {f : α → Bool} {g : α → V} {i : Nat} {x : α} (h : its[i]? = some x) : acc its f g (i + 1) = acc its f g i ++ if f x = true then [g x] else [] := by
  unfold acc
  rw [List.take_add_one, h]
  simp only [Option.toList, List.filter_append, List.map_append]
  congr 1
  by_cases hf : f x = true
  · simp [hf]
  · simp [hf]
theorem acc_all {α : Type} {its : List α} {f : α → Bool} {g : α → V} : acc its f g its.length = (its.filter f).map g := by
  unfold acc
  rw [List.take_length]
theorem acc_len {α : Type} (its : List α) (f : α → Bool) (g : α → V) (i : Nat) : (acc its f g i).length ≤ i := by
  unfold acc
  rw [List.length_map]
  refine Nat.le_trans (List.length_filter_le _ _) ?_
  rw [List.length_take]
  exact Nat.min_le_left _ _
def Cv {α : Type} (H : Hp) (its : List α) (f : α → Bool) (g : α → V) (Dl : Addr) (i : Nat) (H' : Hp) : Prop := H Dl = none ∧ Ex H H' ∧ H' Dl = some (.lst (acc its f g i))
theorem cv_turn {α : Type} {its : List α} {H H' H'' : Hp} {f : α → Bool} {g : α → V} {Dl : Addr} {i : Nat} {x : α} {σ2 : L2.St} (p : Cv H its f g Dl i H') (hx : its[i]? = some x) (hi : its.length ≤ 50000) (he2 : Ex H' H'') (ht : EvT t σ2 H (f x)) (he : f x = true → Er K te σ2 H (.v (g x))) :
    t σ2 H'' fun b H3 => if b = true then te σ2 H3 fun y H4 => ∃ acc, H4 Dl = some (.lst acc) ∧ acc.length < sizeLine ∧ Cv H its f g Dl (i + 1) (upd H4 Dl (.lst (acc ++ [y]))) else Cv H its f g Dl (i + 1) H3 := by
  obtain ⟨p1, p2, p3⟩ := p
  have hlt := (List.getElem?_eq_some_iff.mp hx).1
  refine ht H'' (p2.trans he2) _ fun H3 e3 => ?_
  have p4 := e3 Dl _ (he2 Dl _ p3)
  cases hf : f x with
  | true =>
    show te σ2 H3 fun y H4 => ∃ a, H4 Dl = some (.lst a) ∧ a.length < sizeLine ∧ Cv H its f g Dl (i + 1) (upd H4 Dl (.lst (a ++ [y])))
    refine he hf H3 ((p2.trans he2).trans e3) _ fun y H4 e4 z => ?_
    have ez : y = g x := z
    subst ez
    refine ⟨acc its f g i, e4 Dl _ p4, sz_lt (by have := acc_len its f g i; omega), p1, Ex.mut (((p2.trans he2).trans e3).trans e4) p1, ?_⟩
    rw [acc_next hx, if_pos hf]
    exact upd_same
  | false =>
    show Cv H its f g Dl (i + 1) H3
    refine ⟨p1, (p2.trans he2).trans e3, ?_⟩
    rw [acc_next hx, if_neg (by rw [hf]; exact Bool.false_ne_true), List.append_nil]
    exact p4
/-- [e for x in range(n) if t] -/
theorem er_lcR {n j : Nat} {vs : List Nat} (f : Nat → Bool) (g : Nat → V) (h : Era K ta σ H [.v (.int (n : Int))]) (hn : n ≤ 40000) (hw : ∀ x, wipe ((wipe σ vs).set j (some x)) vs = wipe σ vs)
    (ht : ∀ i H1, Ex H H1 → i < n → EvT t ((wipe σ vs).set j (some (.int (i : Int)))) H1 (f i)) (he : ∀ i H1, Ex H H1 → i < n → f i = true → Er K te ((wipe σ vs).set j (some (.int (i : Int)))) H1 (.v (g i))) :
    Er K (tLc (iRng1 ta) (gName j) t te vs) σ H (.n (((List.range n).filter f).map g)) := fun H0 e Q q => h H0 e _ fun ws H1 e1 z => by
  rcases z with _ | ⟨rfl, _ | _⟩
  refine ⟨(n : Int), rfl, by omega, by omega, fun Dl hD => ?_⟩
  rw [Int.toNat_natCast]
  refine lc_range (lo := 0) (n := n) (Cv H1 (List.range n) f g Dl) ⟨hD, Ex.new hD, upd_same⟩ (fun i H' hi p => ?_) fun H' p => ?_
  · have e0 : (0 : Int) + (i : Int) = (i : Int) := Int.zero_add _
    show wipe ((wipe σ vs).set j (some (.int ((0 : Int) + (i : Int))))) vs = wipe σ vs ∧ t ((wipe σ vs).set j (some (.int ((0 : Int) + (i : Int))))) H' fun b H3 => if b = true then te ((wipe σ vs).set j (some (.int ((0 : Int) + (i : Int))))) H3 fun y H4 => ∃ acc, H4 Dl = some (.lst acc) ∧ acc.length < sizeLine ∧ Cv H1 (List.range n) f g Dl (i + 1) (upd H4 Dl (.lst (acc ++ [y]))) else Cv H1 (List.range n) f g Dl (i + 1) H3
    rw [e0]
    exact ⟨hw _, cv_turn p (x := i) (by rw [List.getElem?_range hi]) (by rw [List.length_range]; omega) (Ex.refl _) (ht i H1 (e.trans e1) hi) (fun hf => he i H1 (e.trans e1) hi hf)⟩
  · obtain ⟨p1, p2, p3⟩ := p
    refine q _ H' (e1.trans p2) ⟨Dl, rfl, ?_⟩
    rw [p3]
    have := acc_all (its := List.range n) (f := f) (g := g)
    rw [List.length_range] at this
    rw [this]
/-- .. over a list -/
theorem er_lcL {α : Type} {its : List α} {inj : α → V} {j : Nat} {vs : List Nat} (f : α → Bool) (g : α → V) (h : Er K tl σ H (.l (its.map inj))) (hz : its.length ≤ 40000) (hw : ∀ x, wipe ((wipe σ vs).set j (some x)) vs = wipe σ vs)
    (ht : ∀ (i : Nat) x H1, Ex H H1 → its[i]? = some x → EvT t ((wipe σ vs).set j (some (inj x))) H1 (f x)) (he : ∀ (i : Nat) x H1, Ex H H1 → its[i]? = some x → f x = true → Er K te ((wipe σ vs).set j (some (inj x))) H1 (.v (g x))) :
    Er K (tLc (iList K tl) (gName j) t te vs) σ H (.n ((its.filter f).map g)) := fun H0 e Q q => h H0 e _ fun w H1 e1 ⟨a, ea, ha⟩ => by
  subst ea
  refine ⟨a, rfl, ⟨_, ha⟩, fun Dl hD => ?_⟩
  refine lc_list (xs := its.map inj) (Cv H1 its f g Dl) ⟨hD, Ex.new hD, upd_same⟩ (fun i H' _ p => ex_l p.2.1 ha) (fun i y H' hy p => ?_) fun H' p => ?_
  · rw [List.getElem?_map] at hy
    cases hx : its[i]? with
    | none => rw [hx] at hy; cases hy
    | some x =>
      rw [hx] at hy
      have ey : inj x = y := Option.some.inj hy
      subst ey
      exact ⟨hw _, cv_turn p hx (by omega) (Ex.refl _) (ht i x H1 (e.trans e1) hx) (fun hf => he i x H1 (e.trans e1) hx hf)⟩
  · obtain ⟨p1, p2, p3⟩ := p
    refine q _ H' (e1.trans p2) ⟨Dl, rfl, ?_⟩
    rw [p3, List.length_map, acc_all]

theorem lc_P {ps : List (V × V)} {g : TG} {tt : TT} {te : TE} {vs : List Nat} {σ : L2.St} {H1 : Hp} {D : Addr} {Qd : Hp → Prop} (Pv : Nat → Hp → Prop) (h0 : Pv 0 (upd H1 D (.lst [])))
    (hs : ∀ (i : Nat) x y (T : Addr) H, ps[i]? = some (x, y) → Pv i H → H T = none → g (.ref T) (wipe σ vs) (upd H T (.tup [x, y])) fun σ2 H2 => wipe σ2 vs = wipe σ vs ∧ tt σ2 H2 fun b H3 =>
      if b = true then te σ2 H3 fun y H4 => ∃ acc, H4 D = some (.lst acc) ∧ acc.length < sizeLine ∧ Pv (i + 1) (upd H4 D (.lst (acc ++ [y]))) else Pv (i + 1) H3) (hd : ∀ H, Pv ps.length H → Qd H) :
    ∃ W : Nat → Nat → Hp → Prop, (∃ m, W 0 m (upd H1 D (.lst []))) ∧ ∀ i m H, W i m H →
      ((ItP ps).stop i H ∧ Qd H) ∨ ((ItP ps).go i H ∧ ∃ Nx : Hp → Prop, (∀ H', Nx H' → ∃ m', m' < m ∧ W (i + 1) m' H') ∧ ∀ x H', (ItP ps).yld i H x H' → g x (wipe σ vs) H' fun σ2 H2 => wipe σ2 vs = wipe σ vs ∧ tt σ2 H2 fun b H3 =>
        if b = true then te σ2 H3 fun y H4 => ∃ acc, H4 D = some (.lst acc) ∧ acc.length < sizeLine ∧ Nx (upd H4 D (.lst (acc ++ [y]))) else Nx H3) := by
  refine ⟨fun i m H => m = ps.length - i ∧ i ≤ ps.length ∧ Pv i H, ⟨ps.length, by simp, Nat.zero_le _, h0⟩, ?_⟩
  rintro i m H ⟨rfl, hi, p⟩
  by_cases hlt : i < ps.length
  · refine .inr ⟨hlt, Pv (i + 1), fun H' p' => ⟨ps.length - (i + 1), by omega, rfl, hlt, p'⟩, fun v H' y => ?_⟩
    obtain ⟨T, x, y, rfl, hT, rfl, hxy⟩ := y
    exact hs i x y T H hxy p hT
  · have e : i = ps.length := by omega
    subst e
    exact .inl ⟨rfl, hd H p⟩
theorem lc_S {z : Str} {g : TG} {tt : TT} {te : TE} {vs : List Nat} {σ : L2.St} {H1 : Hp} {D : Addr} {Qd : Hp → Prop} (Pv : Nat → Hp → Prop) (h0 : Pv 0 (upd H1 D (.lst [])))
    (hs : ∀ (i : Nat) c H, z.cps.toList[i]? = some c → Pv i H → g (sgn c) (wipe σ vs) H fun σ2 H2 => wipe σ2 vs = wipe σ vs ∧ tt σ2 H2 fun b H3 =>
      if b = true then te σ2 H3 fun y H4 => ∃ acc, H4 D = some (.lst acc) ∧ acc.length < sizeLine ∧ Pv (i + 1) (upd H4 D (.lst (acc ++ [y]))) else Pv (i + 1) H3) (hd : ∀ H, Pv z.cps.size H → Qd H) :
    ∃ W : Nat → Nat → Hp → Prop, (∃ m, W 0 m (upd H1 D (.lst []))) ∧ ∀ i m H, W i m H →
      ((Its z).stop i H ∧ Qd H) ∨ ((Its z).go i H ∧ ∃ Nx : Hp → Prop, (∀ H', Nx H' → ∃ m', m' < m ∧ W (i + 1) m' H') ∧ ∀ x H', (Its z).yld i H x H' → g x (wipe σ vs) H' fun σ2 H2 => wipe σ2 vs = wipe σ vs ∧ tt σ2 H2 fun b H3 =>
        if b = true then te σ2 H3 fun y H4 => ∃ acc, H4 D = some (.lst acc) ∧ acc.length < sizeLine ∧ Nx (upd H4 D (.lst (acc ++ [y]))) else Nx H3) := by
  refine ⟨fun i m H => m = z.cps.size - i ∧ i ≤ z.cps.size ∧ Pv i H, ⟨z.cps.size, by simp, Nat.zero_le _, h0⟩, ?_⟩
  rintro i m H ⟨rfl, hi, p⟩
  by_cases hlt : i < z.cps.size
  · refine .inr ⟨hlt, Pv (i + 1), fun H' p' => ⟨z.cps.size - (i + 1), by omega, rfl, hlt, p'⟩, fun v H' y => ?_⟩
    obtain ⟨rfl, c, hc, rfl⟩ := y
    exact hs i c _ (by simpa using hc) p
  · have e : i = z.cps.size := by omega
    subst e
    exact .inl ⟨Nat.le_refl _, hd H p⟩
/-- [e for c in text if t] -/
theorem er_lcS {z : Str} {j : Nat} {vs : List Nat} (f : Nat → Bool) (g : Nat → V) (h : Er K tl σ H (.v (.str z))) (hz : z.length ≤ 40000) (hw : ∀ x, wipe ((wipe σ vs).set j (some x)) vs = wipe σ vs)
    (ht : ∀ (i : Nat) c H1, Ex H H1 → z.cps.toList[i]? = some c → EvT t ((wipe σ vs).set j (some (sgn c))) H1 (f c)) (he : ∀ (i : Nat) c H1, Ex H H1 → z.cps.toList[i]? = some c → f c = true → Er K te ((wipe σ vs).set j (some (sgn c))) H1 (.v (g c))) :
    Er K (tLc (iStr tl) (gName j) t te vs) σ H (.n ((z.cps.toList.filter f).map g)) := fun H0 e Q q => h H0 e _ fun w H1 e1 ew => by
  refine ⟨z, ew, fun Dl hD => ?_⟩
  refine lc_S (z := z) (Cv H1 z.cps.toList f g Dl) ⟨hD, Ex.new hD, upd_same⟩ (fun i c H' hc p => ?_) fun H' p => ?_
  · exact ⟨hw _, cv_turn p hc (by show z.cps.toList.length ≤ 50000; have : z.cps.toList.length = z.length := by simp [Str.length]
                                  omega) (Ex.refl _) (ht i c H1 (e.trans e1) hc) (fun hf => he i c H1 (e.trans e1) hc hf)⟩
  · obtain ⟨p1, p2, p3⟩ := p
    refine q _ H' (e1.trans p2) ⟨Dl, rfl, ?_⟩
    rw [p3, ← acc_all]
    simp
/-- [e for a, b in zip(one, two) if t], the names in slots j1, j2 -/
theorem er_lcZ {one two : Str} {j1 j2 : Nat} {vs : List Nat} (f : Nat × Nat → Bool) (g : Nat × Nat → V) (h : Era K ta σ H [.v (.str one), .v (.str two)]) (hz : one.length ≤ 40000) (hw : ∀ x y, wipe (((wipe σ vs).set j1 (some x)).set j2 (some y)) vs = wipe σ vs)
    (ht : ∀ (i : Nat) c1 c2 H1, Ex H H1 → one.cps[i]? = some c1 → two.cps[i]? = some c2 → EvT t (((wipe σ vs).set j1 (some (sgn c1))).set j2 (some (sgn c2))) H1 (f (c1, c2)))
    (he : ∀ (i : Nat) c1 c2 H1, Ex H H1 → one.cps[i]? = some c1 → two.cps[i]? = some c2 → f (c1, c2) = true → Er K te (((wipe σ vs).set j1 (some (sgn c1))).set j2 (some (sgn c2))) H1 (.v (g (c1, c2)))) :
    Er K (tLc (iZipS ta) (gTup K 2 (gCons (gName j1) (gCons (gName j2) gNil))) t te vs) σ H (.n (((one.cps.toList.zip two.cps.toList).filter f).map g)) := fun H0 e Q q => h H0 e _ fun ws H1 e1 z => by
  rcases z with _ | ⟨rfl, _ | ⟨rfl, _ | _⟩⟩
  refine ⟨one, two, rfl, fun Dl hD => ?_⟩
  refine lc_P (ps := zipS one two) (Cv H1 (one.cps.toList.zip two.cps.toList) f g Dl) ⟨hD, Ex.new hD, upd_same⟩ (fun i x y T H' hxy p hT => ?_) fun H' p => ?_
  · obtain ⟨c1, c2, h1, h2, e1', e2'⟩ := zipS_at hxy
    subst e1'
    subst e2'
    have hp : (one.cps.toList.zip two.cps.toList)[i]? = some (c1, c2) := List.getElem?_zip_eq_some (z := (c1, c2)) |>.mpr ⟨by simpa using h1, by simpa using h2⟩
    refine ⟨T, [_, _], rfl, st_of upd_same, rfl, _, [_], rfl, _, [], rfl, rfl, hw _ _, cv_turn p hp ?_ (Ex.new hT) (ht i c1 c2 H1 (e.trans e1) h1 h2) (fun hf => he i c1 c2 H1 (e.trans e1) h1 h2 hf)⟩
    rw [List.length_zip]
    have : one.cps.toList.length = one.length := by simp [Str.length]
    omega
  · obtain ⟨p1, p2, p3⟩ := p
    refine q _ H' (e1.trans p2) ⟨Dl, rfl, ?_⟩
    rw [p3, ← acc_all, zipS_len]
    simp
theorem enumS_at {x : Str} {i : Nat} {a b : V} (h : (enumS x)[i]? = some (a, b)) : ∃ c, x.cps.toList[i]? = some c ∧ a = .int (i : Int) ∧ b = sgn c := by
  have hl : i < (enumS x).length := (List.getElem?_eq_some_iff.mp h).1
  rw [enumS_len] at hl
  have e := enumS_get (x := x) (i := i) (c := x.cps[i]) (by simp [hl])
  rw [h] at e
  have e2 := Option.some.inj e
  injection e2 with e3 e4
  exact ⟨x.cps[i], by simp [hl], e3, e4⟩
/-- [e for k, c in enumerate(text) if t], the names in slots j1, j2 -/
theorem er_lcE {z : Str} {j1 j2 : Nat} {vs : List Nat} (f : Nat × Nat → Bool) (g : Nat × Nat → V) (h : Era K ta σ H [.v (.str z)]) (hz : z.length ≤ 40000) (hw : ∀ x y, wipe (((wipe σ vs).set j1 (some x)).set j2 (some y)) vs = wipe σ vs)
    (ht : ∀ (i : Nat) c H1, Ex H H1 → z.cps.toList[i]? = some c → EvT t (((wipe σ vs).set j1 (some (.int (i : Int)))).set j2 (some (sgn c))) H1 (f (c, i)))
    (he : ∀ (i : Nat) c H1, Ex H H1 → z.cps.toList[i]? = some c → f (c, i) = true → Er K te (((wipe σ vs).set j1 (some (.int (i : Int)))).set j2 (some (sgn c))) H1 (.v (g (c, i)))) :
    Er K (tLc (iEnumS ta) (gTup K 2 (gCons (gName j1) (gCons (gName j2) gNil))) t te vs) σ H (.n ((z.cps.toList.zipIdx.filter f).map g)) := fun H0 e Q q => h H0 e _ fun ws H1 e1 zz => by
  rcases zz with _ | ⟨rfl, _ | _⟩
  refine ⟨z, rfl, fun Dl hD => ?_⟩
  refine lc_P (ps := enumS z) (Cv H1 z.cps.toList.zipIdx f g Dl) ⟨hD, Ex.new hD, upd_same⟩ (fun i x y T H' hxy p hT => ?_) fun H' p => ?_
  · obtain ⟨c, h1, e1', e2'⟩ := enumS_at hxy
    subst e1'
    subst e2'
    have hp : z.cps.toList.zipIdx[i]? = some (c, i) := by rw [List.getElem?_zipIdx, h1]; simp
    refine ⟨T, [_, _], rfl, st_of upd_same, rfl, _, [_], rfl, _, [], rfl, rfl, hw _ _, cv_turn p hp ?_ (Ex.new hT) (ht i c H1 (e.trans e1) h1) (fun hf => he i c H1 (e.trans e1) h1 hf)⟩
    rw [List.length_zipIdx]
    have : z.cps.toList.length = z.length := by simp [Str.length]
    omega
  · obtain ⟨p1, p2, p3⟩ := p
    refine q _ H' (e1.trans p2) ⟨Dl, rfl, ?_⟩
    rw [p3, ← acc_all, enumS_len]
    simp
end
end Mi

set_option maxHeartbeats 2000000
namespace Mi
open PySem PySem.Spec PyProof.Rows L2 Evl

/-! ### a text by its codes -/
def S (l : List Nat) : Str := ⟨l.toArray⟩
theorem S_list (l : List Nat) : (S l).cps.toList = l := rfl
theorem S_len (l : List Nat) : (S l).length = l.length := by simp [S, Str.length]
theorem S_size (l : List Nat) : (S l).cps.size = l.length := by simp [S]
theorem S_of (x : Str) : S x.cps.toList = x := str_ext rfl
theorem S_inj {a b : List Nat} (h : S a = S b) : a = b := by
  exact congrArg (fun x : Str => x.cps.toList) h
theorem S_eq {a b : List Nat} : (V.str (S a) = V.str (S b)) ↔ a = b := ⟨fun h => S_inj (V.str.inj h), fun h => by rw [h]⟩
theorem S_app (a b : List Nat) : S a ++ S b = S (a ++ b) := str_ext (by
  show ((S a).cps ++ (S b).cps).toList = a ++ b
  simp [S])
theorem S_one (c : Nat) : (⟨#[c]⟩ : Str) = S [c] := rfl
theorem S_reps (a : List Nat) (n : Nat) : reps (S a) n = S (List.replicate n a).flatten := rfl
theorem S_at {l : List Nat} {i : Nat} : (S l).cps[i]? = l[i]? := by simp [S]
theorem join_ones (cs : List Nat) : Txt.join (S []) (cs.map fun c => S [c]) = S cs := by
  show Builtin.Str.glued (S []) (cs.map fun c => S [c]) = S cs
  rw [StrLaws.glued_eq_join]
  induction cs with
  | nil => rfl
  | cons c r ih =>
    cases r with
    | nil => rfl
    | cons c2 r2 =>
      show S [c] ++ S [] ++ Str.join (S []) ((c2 :: r2).map fun c => S [c]) = S (c :: c2 :: r2)
      rw [ih, S_app, S_app]
      simp

section
variable {K : PySem.W.Frag} {σ : L2.St} {H H' : Hp} {te ta tb tc : TE} {t u : TT} {tr : TA} {d d1 d2 d' : Dd} {x y : V} {r : R2}
def Dd.val : Dd → V
  | .v x => x
  | _ => .non
theorem er_lst' {ds : List Dd} (h : Era K tr σ H ds) (hd : ds = (ds.map Dd.val).map Dd.v) (hl : ds.length ≤ 100000) : Er K (tLst tr) σ H (.n (ds.map Dd.val)) := by
  rw [hd] at h
  exact er_lst h (by rw [List.length_map]; exact hl)
theorem er_tup' {ds : List Dd} (h : Era K tr σ H ds) (hd : ds = (ds.map Dd.val).map Dd.v) (hl : ds.length ≤ 100000) : Er K (tTup tr) σ H (.u (ds.map Dd.val)) := by
  rw [hd] at h
  exact er_tup h (by rw [List.length_map]; exact hl)
theorem ro_mulL {i j : Int} (h1 : -18446744073709551616 < i) (h2 : i < 18446744073709551616) : Ro K (rI CMul fun i j => .int (i * j)) (.v (.int i)) (.v (.int j)) (.v (.int (i * j))) := ro_I (.inl ⟨h1, h2⟩)
theorem ro_mulR {i j : Int} (h1 : -18446744073709551616 < j) (h2 : j < 18446744073709551616) : Ro K (rI CMul fun i j => .int (i * j)) (.v (.int i)) (.v (.int j)) (.v (.int (i * j))) := ro_I (.inr ⟨h1, h2⟩)
theorem ro_div {i j : Int} (h1 : 0 < j) (h2 : j < 1073741824) : Ro K (rI CDiv fun i j => .int (i / j)) (.v (.int i)) (.v (.int j)) (.v (.int (i / j))) := ro_I ⟨h1, h2⟩
theorem ro_mod {i j : Int} (h1 : 0 < j) : Ro K (rI (fun _ j => 0 < j) fun i j => .int (i % j)) (.v (.int i)) (.v (.int j)) (.v (.int (i % j))) := ro_I h1
theorem ro_ixI {ns : List Int} {i : Int} (h0 : 0 ≤ i) (h1 : i < ns.length) : Ro K (rIxL K) (.l (vis ns)) (.v (.int i)) (.v (.int (ns.getD i.toNat 0))) := by
  refine ro_ixL h0 ?_
  have h2 : i.toNat < ns.length := by omega
  rw [List.getElem?_map, List.getD_eq_getElem?_getD, List.getElem?_eq_getElem h2]
  rfl
theorem ro_ixIN {ns : List Int} {i : Int} (h0 : 0 ≤ i) (h1 : i < ns.length) : Ro K (rIxL K) (.n (vis ns)) (.v (.int i)) (.v (.int (ns.getD i.toNat 0))) := fun v w H1 a b => ro_ixI h0 h1 v w H1 a.n2l b
theorem ro_ixT2 {ys : List Str} {i : Int} (h0 : 0 ≤ i) (h1 : i < ys.length) : Ro K (rIxL K) (.l (vss ys)) (.v (.int i)) (.v (.str (ys.getD i.toNat Str.empty))) := by
  refine ro_ixL h0 ?_
  have h2 : i.toNat < ys.length := by omega
  rw [List.getElem?_map, List.getD_eq_getElem?_getD, List.getElem?_eq_getElem h2]
  rfl
theorem ro_ixG {xs : List V} {i : Int} (h0 : 0 ≤ i) (h1 : i < xs.length) : Ro K (rIxL K) (.n xs) (.v (.int i)) (.v (xs.getD i.toNat .non)) := by
  refine ro_ixN h0 ?_
  have h2 : i.toNat < xs.length := by omega
  rw [List.getD_eq_getElem?_getD, List.getElem?_eq_getElem h2]
  rfl
theorem ro_ixC {l : List Nat} {i : Int} (h0 : 0 ≤ i) (h1 : i < l.length) (hz : l.length ≤ 100000) : Ro K rIxS (.v (.str (S l))) (.v (.int i)) (.v (.str (S [l.getD i.toNat 0]))) := by
  refine ro_ixS (by rw [S_len]; exact hz) h0 ?_
  have h2 : i.toNat < l.length := by omega
  rw [S_list, List.getD_eq_getElem?_getD, List.getElem?_eq_getElem h2]
  rfl
theorem ro_addC {a b : List Nat} (h : a.length + b.length ≤ 100000) : Ro K rAddS2 (.v (.str (S a))) (.v (.str (S b))) (.v (.str (S (a ++ b)))) := by
  rw [← S_app]
  exact ro_addS (by rw [S_len, S_len]; exact h)
theorem ro_mulC {a : List Nat} {n : Nat} (hn : n ≤ 1000) (ha : a.length ≤ 1000) : Ro K rMulS (.v (.str (S a))) (.v (.int (n : Int))) (.v (.str (S (List.replicate n a).flatten))) := by
  rw [← S_reps]
  exact ro_mulS hn (by rw [S_len]; exact ha)
theorem ro_eqC {a b : List Nat} : Ro K rEq (.v (.str (S a))) (.v (.str (S b))) (.v (.bl (decide (a = b)))) := by
  have e : decide (V.str (S a) = V.str (S b)) = decide (a = b) := by rw [decide_eq_decide]; exact S_eq
  rw [← e]
  exact ro_eq rfl
theorem ro_neC {a b : List Nat} : Ro K rNe (.v (.str (S a))) (.v (.str (S b))) (.v (.bl (!decide (a = b)))) := by
  have e : decide (V.str (S a) = V.str (S b)) = decide (a = b) := by rw [decide_eq_decide]; exact S_eq
  rw [← e]
  exact ro_ne rfl
theorem ro_eqI {a b : Int} : Ro K rEq (.v (.int a)) (.v (.int b)) (.v (.bl (decide (a = b)))) := by
  have e : decide (V.int a = V.int b) = decide (a = b) := by rw [decide_eq_decide]; exact ⟨V.int.inj, fun h => by rw [h]⟩
  rw [← e]
  exact ro_eq rfl
theorem ro_neI {a b : Int} : Ro K rNe (.v (.int a)) (.v (.int b)) (.v (.bl (!decide (a = b)))) := by
  have e : decide (V.int a = V.int b) = decide (a = b) := by rw [decide_eq_decide]; exact ⟨V.int.inj, fun h => by rw [h]⟩
  rw [← e]
  exact ro_ne rfl
theorem ro_eqB {a b : Bool} : Ro K rEq (.v (.bl a)) (.v (.bl b)) (.v (.bl (decide (a = b)))) := by
  have e : decide (V.bl a = V.bl b) = decide (a = b) := by rw [decide_eq_decide]; exact ⟨V.bl.inj, fun h => by rw [h]⟩
  rw [← e]
  exact ro_eq rfl
theorem ro_neB {a b : Bool} : Ro K rNe (.v (.bl a)) (.v (.bl b)) (.v (.bl (!decide (a = b)))) := by
  have e : decide (V.bl a = V.bl b) = decide (a = b) := by rw [decide_eq_decide]; exact ⟨V.bl.inj, fun h => by rw [h]⟩
  rw [← e]
  exact ro_ne rfl
theorem rc_lenC {z : List Nat} (hz : z.length ≤ 100000) : Rc K rLenStr [.v (.str (S z))] (.v (.int (z.length : Int))) := by
  have h := rc_lenS (K := K) (z := S z) (by rw [S_len]; exact hz)
  rw [S_len] at h
  exact h
theorem rc_lenI {ns : List Int} : Rc K (rLenS K) [.l (vis ns)] (.v (.int (ns.length : Int))) := by
  have h := rc_lenL (K := K) (xs := vis ns)
  rw [List.length_map] at h
  exact h
theorem rc_lenT {ns : List Str} : Rc K (rLenS K) [.l (vss ns)] (.v (.int (ns.length : Int))) := by
  have h := rc_lenL (K := K) (xs := vss ns)
  rw [List.length_map] at h
  exact h
theorem rc_lenIN {ns : List Int} : Rc K (rLenS K) [.n (vis ns)] (.v (.int (ns.length : Int))) := by
  have h := rc_lenN (K := K) (xs := vis ns)
  rw [List.length_map] at h
  exact h
theorem rc_lenTN {ns : List Str} : Rc K (rLenS K) [.n (vss ns)] (.v (.int (ns.length : Int))) := by
  have h := rc_lenN (K := K) (xs := vss ns)
  rw [List.length_map] at h
  exact h
/-- ''.join of texts of one sign each -/
theorem rm_joinC {cs : List Nat} (hz : cs.length ≤ 100000) : Rm K "str" (rJoin K) (.v (.str (S []))) [.n (cs.map fun c => V.str (S [c]))] (.v (.str (S cs))) := by
  have h := rm_join (K := K) (a := S []) (ys := cs.map fun c => S [c]) (by
    rw [List.map_map, List.length_map, S_len]
    have e : ((fun x : Str => x.length) ∘ fun c => S [c]) = fun _ => 1 := by funext c; exact S_len [c]
    rw [e, List.map_const']
    simp
    exact hz)
  rw [join_ones] at h
  have e : vss (cs.map fun c => S [c]) = cs.map fun c => V.str (S [c]) := by rw [vss, List.map_map]; rfl
  rw [e] at h
  exact h
end

/-! ### a def of the text -/
structure At (K : PySem.W.Frag) (mg : Str → Option Value) (x : Str) (st : Stmt) (ps : List Str) : Prop where
  ex : ∃ f fd, mg x = some (.ref f) ∧ Fun K x x st f fd ∧ Binds K fd ps [] ∧
    (ps.length = 1 → ∀ (s : Shared) (w1 : Value), BindsTo s fd ⟨[], ps.zip [w1]⟩ (ps.zip [w1])) ∧
    (∀ p q, ps = [p, q] → ∀ (s : Shared) (w1 w2 : Value), BindsTo s fd ⟨[], [q, p].zip [w1, w2]⟩ ([p, q].zip [w2, w1]))
theorem IsAll.len {K : PySem.W.Frag} {H : Hp} : ∀ {ds : List Dd} {vs : List V}, IsAll K H ds vs → ds.length = vs.length
  | _, _, .nil => rfl
  | _, _, .cons _ b => congrArg (· + 1) (IsAll.len b)
theorem At.hasR {P : Program} {w : World} {K : PySem.W.Frag} {mg : Str → Option Value} {base : Heap} {x : Str} {st : Stmt} {N ps : List Str} {k : Nat} {T : Type} {pre : T → Prop} {args : T → List Dd} {ret : T → Dd}
    (h : At K mg x st ps) (Sc : FnScope N ps (defScope st)) (hl : ∀ a, (args a).length = ps.length)
    (hbody : ∀ (f : Addr) (cdv : Value) (A : Around) (outer : List Env) (s : Shared) (H : Hp) (a : T) (vs : List V) (Q : VK) (E : XK), Room k (A.deeper (envOfC x (defScope st) s.heap.objs.size f cdv)) → pre a → IsAll K H (args a) vs →
      (∀ v H', Ex H H' → Is K H' (ret a) v → Q v H') →
      ∃ t, PSs (cxOf CX0 P w K mg base N x (defScope st) f cdv A outer s H E).nox (defBody st) t ∧ t { nx := fun _ H' => Q .non H', rt := Q } (start N vs) H) :
    Has P w K mg base (k + 1) x ps (spR K pre args ret) := by
  obtain ⟨f, fd, hm, F, b0, b1, b2⟩ := h.ex
  refine ⟨f, fd, hm, F.kp, F.ok Sc (fun vs H Q E hsp => ?_) (fun cdv A outer s H vs Q E hr hsp => ?_), b0, b1, b2⟩
  · obtain ⟨a, _, hv, _⟩ := hsp
    rw [← hv.len, hl]
  · obtain ⟨a, hp, hv, hk⟩ := hsp
    exact hbody f cdv A outer s H a vs Q E hr hp hv hk
theorem Has.mono {P : Program} {w : World} {K : PySem.W.Frag} {mg : Str → Option Value} {base : Heap} {j k : Nat} {x : Str} {ps : List Str} {sp : Sp} (h : Has P w K mg base j x ps sp) (hj : j ≤ k) : Has P w K mg base k x ps sp := by
  obtain ⟨f, fd, a, b, c, d⟩ := h.ex
  exact ⟨f, fd, a, b, c.mono hj, d⟩

/-! ### the same, over texts by their codes -/
section
variable {K : PySem.W.Frag} {σ : L2.St} {H H' : Hp} {te tl : TE} {t : TT} {ta : TA} {D : Ends} {tu tz : TS}
theorem c_forZ {j1 j2 : Nat} {one two : List Nat} (h : Era K ta σ H [.s (S one), .s (S two)]) (Pv : Nat → L2.St → Hp → Prop) (h0 : ∀ H1, Ex H H1 → Pv 0 σ H1)
    (hs : ∀ (i : Nat) c1 c2 σ' H' H2, one[i]? = some c1 → two[i]? = some c2 → Pv i σ' H' → Ex H' H2 → tu { D with nx := Pv (i + 1), ct := Pv (i + 1), bk := tz D } ((σ'.set j1 (some (.str (S [c1])))).set j2 (some (.str (S [c2])))) H2)
    (hd : ∀ σ' H', Pv (min one.length two.length) σ' H' → tz D σ' H') : tSeq (tFor (iZipS ta) (gTup K 2 (gCons (gName j1) (gCons (gName j2) gNil))) tu) tz D σ H :=
  b_forZ h Pv h0 (fun i c1 c2 σ' H' H2 h1 h2 => hs i c1 c2 σ' H' H2 (by rw [← S_at]; exact h1) (by rw [← S_at]; exact h2)) (by rw [S_len, S_len]; exact hd)
theorem c_lcZ {one two : List Nat} {j1 j2 : Nat} {vs : List Nat} (f : Nat × Nat → Bool) (g : Nat × Nat → V) (h : Era K ta σ H [.s (S one), .s (S two)]) (hz : one.length ≤ 40000) (hw : ∀ x y, wipe (((wipe σ vs).set j1 (some x)).set j2 (some y)) vs = wipe σ vs)
    (ht : ∀ (i : Nat) c1 c2 H1, Ex H H1 → one[i]? = some c1 → two[i]? = some c2 → EvT t (((wipe σ vs).set j1 (some (.str (S [c1])))).set j2 (some (.str (S [c2])))) H1 (f (c1, c2)))
    (he : ∀ (i : Nat) c1 c2 H1, Ex H H1 → one[i]? = some c1 → two[i]? = some c2 → f (c1, c2) = true → Er K te (((wipe σ vs).set j1 (some (.str (S [c1])))).set j2 (some (.str (S [c2])))) H1 (.v (g (c1, c2)))) :
    Er K (tLc (iZipS ta) (gTup K 2 (gCons (gName j1) (gCons (gName j2) gNil))) t te vs) σ H (.n (((one.zip two).filter f).map g)) :=
  er_lcZ (one := S one) (two := S two) f g h (by rw [S_len]; exact hz) hw (fun i c1 c2 H1 e h1 h2 => ht i c1 c2 H1 e (by rw [← S_at]; exact h1) (by rw [← S_at]; exact h2)) (fun i c1 c2 H1 e h1 h2 => he i c1 c2 H1 e (by rw [← S_at]; exact h1) (by rw [← S_at]; exact h2))
theorem c_lcE {z : List Nat} {j1 j2 : Nat} {vs : List Nat} (f : Nat × Nat → Bool) (g : Nat × Nat → V) (h : Era K ta σ H [.s (S z)]) (hz : z.length ≤ 40000) (hw : ∀ x y, wipe (((wipe σ vs).set j1 (some x)).set j2 (some y)) vs = wipe σ vs)
    (ht : ∀ (i : Nat) c H1, Ex H H1 → z[i]? = some c → EvT t (((wipe σ vs).set j1 (some (.int (i : Int)))).set j2 (some (.str (S [c])))) H1 (f (c, i)))
    (he : ∀ (i : Nat) c H1, Ex H H1 → z[i]? = some c → f (c, i) = true → Er K te (((wipe σ vs).set j1 (some (.int (i : Int)))).set j2 (some (.str (S [c])))) H1 (.v (g (c, i)))) :
    Er K (tLc (iEnumS ta) (gTup K 2 (gCons (gName j1) (gCons (gName j2) gNil))) t te vs) σ H (.n ((z.zipIdx.filter f).map g)) :=
  er_lcE (z := S z) f g h (by rw [S_len]; exact hz) hw ht he
theorem c_lcS {z : List Nat} {j : Nat} {vs : List Nat} (f : Nat → Bool) (g : Nat → V) (h : Er K tl σ H (.s (S z))) (hz : z.length ≤ 40000) (hw : ∀ x, wipe ((wipe σ vs).set j (some x)) vs = wipe σ vs)
    (ht : ∀ (i : Nat) c H1, Ex H H1 → z[i]? = some c → EvT t ((wipe σ vs).set j (some (.str (S [c])))) H1 (f c)) (he : ∀ (i : Nat) c H1, Ex H H1 → z[i]? = some c → f c = true → Er K te ((wipe σ vs).set j (some (.str (S [c])))) H1 (.v (g c))) :
    Er K (tLc (iStr tl) (gName j) t te vs) σ H (.n ((z.filter f).map g)) :=
  er_lcS (z := S z) f g h (by rw [S_len]; exact hz) hw ht he
/-- an if without else whose branch always leaves, behind it the rest -/
theorem q_leave {b : Bool} (h : EvT t σ H b) (h1 : b = true → ∀ H1, Ex H H1 → tu { D with nx := tz D } σ H1) (h2 : b = false → ∀ H1, Ex H H1 → tz D σ H1) : tSeq (tIfS t tu tNext) tz D σ H := q_when h h1 h2
end

/-! ### tests that carry K -/
def Et (_K : PySem.W.Frag) (t : TT) (σ : L2.St) (H : Hp) (b : Bool) : Prop := EvT t σ H b
section
variable {K : PySem.W.Frag} {σ : L2.St} {H H' : Hp} {te ta tb : TE} {t u : TT} {a b : Bool} {d : Dd} {D : Ends} {tu tw tz : TS} {x y : V}
theorem et1 (h : Er K te σ H (.b b)) : Et K (tTest te) σ H b := et_t h
theorem et2 (h : Er K te σ H (.b b)) : Et K (tB te) σ H b := et_v h
theorem et_an (h1 : Et K t σ H a) (h2 : a = true → Et K u σ H b) : Et K (tAnd t u) σ H (a && b) := et_and h1 h2
theorem et_orr (h1 : Et K t σ H a) (h2 : a = false → Et K u σ H b) : Et K (tOr t u) σ H (a || b) := et_or h1 h2
theorem et_nt (h1 : Et K t σ H a) : Et K (tNot t) σ H (!a) := et_not h1
theorem Et.to (h : Et K t σ H a) (e : a = b) : Et K t σ H b := e ▸ h
theorem er_iff (h : Et K t σ H b) (h1 : b = true → Er K ta σ H d) (h2 : b = false → Er K tb σ H d) : Er K (tIf t ta tb) σ H d := er_if h h1 h2
/-- a if t else b, two values of one kind -/
theorem er_ite {xa xb : V} (h : Et K t σ H b) (h1 : b = true → Er K ta σ H (.v xa)) (h2 : b = false → Er K tb σ H (.v xb)) : Er K (tIf t ta tb) σ H (.v (if b = true then xa else xb)) := er_if h (fun hb => by rw [if_pos hb]; exact h1 hb) (fun hb => by rw [if_neg (by rw [hb]; exact Bool.false_ne_true)]; exact h2 hb)
theorem a_when (h : Et K t σ H b) (h1 : b = true → ∀ H1, Ex H H1 → tu { D with nx := tz D } σ H1) (h2 : b = false → ∀ H1, Ex H H1 → tz D σ H1) : tSeq (tIfS t tu tNext) tz D σ H := q_when h h1 h2
theorem a_when1 (h : Et K t σ H b) (h1 : b = true → ∀ H1, Ex H H1 → tu D σ H1) (h2 : b = false → ∀ H1, Ex H H1 → D.nx σ H1) : tIfS t tu tNext D σ H := s_when h h1 h2
theorem a_if (h : Et K t σ H b) (h1 : b = true → ∀ H1, Ex H H1 → tu { D with nx := tz D } σ H1) (h2 : b = false → ∀ H1, Ex H H1 → tw { D with nx := tz D } σ H1) : tSeq (tIfS t tu tw) tz D σ H := q_if h h1 h2
theorem a_if1 (h : Et K t σ H b) (h1 : b = true → ∀ H1, Ex H H1 → tu D σ H1) (h2 : b = false → ∀ H1, Ex H H1 → tw D σ H1) : tIfS t tu tw D σ H := s_if h h1 h2
/-- if c: x = e: told by what x holds behind it -/
theorem a_ifAsg {i : Nat} (h : Et K t σ H b) (h1 : b = true → Er K te σ H (.v x)) (h2 : b = false → σ.set i (some x) = σ) (k : ∀ H1, Ex H H1 → tz D (σ.set i (some x)) H1) : tSeq (tIfS t (tAsg te (gName i)) tNext) tz D σ H :=
  a_when h (fun hb H1 e1 => a_asg1 (D := { D with nx := tz D }) ((h1 hb).mono e1) fun v H2 e2 z => by
    have ez : v = x := z
    subst ez
    exact k H2 (e1.trans e2)) (fun hb H1 e1 => by
    have g := k H1 e1
    rw [h2 hb] at g
    exact g)
end
theorem filt_true {α : Type} (l : List α) : l.filter (fun _ => true) = l := List.filter_eq_self.mpr fun _ _ => rfl
theorem c_lcZ' {K : PySem.W.Frag} {σ : L2.St} {H : Hp} {te : TE} {ta : TA} {one two : List Nat} {j1 j2 : Nat} {vs : List Nat} (g : Nat × Nat → V) (h : Era K ta σ H [.s (S one), .s (S two)]) (hz : one.length ≤ 40000) (hw : ∀ x y, wipe (((wipe σ vs).set j1 (some x)).set j2 (some y)) vs = wipe σ vs)
    (he : ∀ (i : Nat) c1 c2 H1, Ex H H1 → one[i]? = some c1 → two[i]? = some c2 → Er K te (((wipe σ vs).set j1 (some (.str (S [c1])))).set j2 (some (.str (S [c2])))) H1 (.v (g (c1, c2)))) :
    Er K (tLc (iZipS ta) (gTup K 2 (gCons (gName j1) (gCons (gName j2) gNil))) tYes te vs) σ H (.n ((one.zip two).map g)) := by
  have := c_lcZ (K := K) (t := tYes) (te := te) (fun _ => true) g h hz hw (fun i c1 c2 H1 _ _ _ => fun H2 e Q q => q H2 (Ex.refl _)) (fun i c1 c2 H1 e h1 h2 _ => he i c1 c2 H1 e h1 h2)
  rwa [filt_true] at this
theorem c_lcE' {K : PySem.W.Frag} {σ : L2.St} {H : Hp} {te : TE} {ta : TA} {z : List Nat} {j1 j2 : Nat} {vs : List Nat} (g : Nat × Nat → V) (h : Era K ta σ H [.s (S z)]) (hz : z.length ≤ 40000) (hw : ∀ x y, wipe (((wipe σ vs).set j1 (some x)).set j2 (some y)) vs = wipe σ vs)
    (he : ∀ (i : Nat) c H1, Ex H H1 → z[i]? = some c → Er K te (((wipe σ vs).set j1 (some (.int (i : Int)))).set j2 (some (.str (S [c])))) H1 (.v (g (c, i)))) :
    Er K (tLc (iEnumS ta) (gTup K 2 (gCons (gName j1) (gCons (gName j2) gNil))) tYes te vs) σ H (.n (z.zipIdx.map g)) := by
  have := c_lcE (K := K) (t := tYes) (te := te) (fun _ => true) g h hz hw (fun i c H1 _ _ => fun H2 e Q q => q H2 (Ex.refl _)) (fun i c H1 e h1 _ => he i c H1 e h1)
  rwa [filt_true] at this
theorem c_lcS' {K : PySem.W.Frag} {σ : L2.St} {H : Hp} {te tl : TE} {z : List Nat} {j : Nat} {vs : List Nat} (g : Nat → V) (h : Er K tl σ H (.s (S z))) (hz : z.length ≤ 40000) (hw : ∀ x, wipe ((wipe σ vs).set j (some x)) vs = wipe σ vs)
    (he : ∀ (i : Nat) c H1, Ex H H1 → z[i]? = some c → Er K te ((wipe σ vs).set j (some (.str (S [c])))) H1 (.v (g c))) :
    Er K (tLc (iStr tl) (gName j) tYes te vs) σ H (.n (z.map g)) := by
  have := c_lcS (K := K) (t := tYes) (te := te) (fun _ => true) g h hz hw (fun i c H1 _ _ => fun H2 e Q q => q H2 (Ex.refl _)) (fun i c H1 e h1 _ => he i c H1 e h1)
  rwa [filt_true] at this
theorem er_lcR' {K : PySem.W.Frag} {σ : L2.St} {H : Hp} {te : TE} {ta : TA} {n j : Nat} {vs : List Nat} (g : Nat → V) (h : Era K ta σ H [.v (.int (n : Int))]) (hn : n ≤ 40000) (hw : ∀ x, wipe ((wipe σ vs).set j (some x)) vs = wipe σ vs)
    (he : ∀ i H1, Ex H H1 → i < n → Er K te ((wipe σ vs).set j (some (.int (i : Int)))) H1 (.v (g i))) :
    Er K (tLc (iRng1 ta) (gName j) tYes te vs) σ H (.n ((List.range n).map g)) := by
  have := er_lcR (K := K) (t := tYes) (te := te) (fun _ => true) g h hn hw (fun i H1 _ _ => fun H2 e Q q => q H2 (Ex.refl _)) (fun i H1 e h1 _ => he i H1 e h1)
  rwa [filt_true] at this

/-- a written text by its codes -/
theorem pe_strS {X : Cx} {x : Str} {j : Nat} {pos : Pos} (l : List Nat) (h : x = S l) : PE X (.Constant (.str x) j pos) (tC (.str (S l))) := by
  rw [← h]
  exact pe_str
/-- an if-elif chain's join is left to the reader -/
theorem Er.ofv {K : PySem.W.Frag} {te : TE} {σ : L2.St} {H : Hp} {x y : V} (h : Er K te σ H (.v x)) (e : x = y) : Er K te σ H (.v y) := e ▸ h
example : (("-abc" : Str) = S [45, 97, 98, 99]) := by decide +kernel
example : (("-abc" : Str) = S [45, 97, 98, 99]) := by rfl

section
variable {K : PySem.W.Frag} {σ : L2.St} {H H0 H' : Hp} {te ta tb : TE} {t u : TT} {a b : Bool} {d d' : Dd} {D : Ends} {tu tw tz : TS} {x y : V}
theorem a_rete (h : Er K te σ H d) (hd : d = d') (e0 : Ex H0 H) (hk : ∀ v H', Ex H0 H' → Is K H' d' v → D.rt v H') : tRet te D σ H := a_ret h fun v H1 e z => hk v H1 (e0.trans e) (hd ▸ z)
theorem a_setv {i : Nat} (h : Er K te σ H (.v x)) (k : ∀ H1, Ex H H1 → tz D (σ.set i (some x)) H1) : tSeq (tAsg te (gName i)) tz D σ H := a_asg h fun v H1 e z => by
  have ez : v = x := z
  subst ez
  exact k H1 e
theorem a_setv1 {i : Nat} (h : Er K te σ H (.v x)) (k : ∀ H1, Ex H H1 → D.nx (σ.set i (some x)) H1) : tAsg te (gName i) D σ H := a_asg1 h fun v H1 e z => by
  have ez : v = x := z
  subst ez
  exact k H1 e
end
theorem inV_int (i : Int) (cs : List Int) : inV (.int i) (vis cs) = decide (i ∈ cs) := by
  unfold inV vis
  rw [List.any_map, Bool.eq_iff_iff, List.any_eq_true]
  simp only [Function.comp_apply, decide_eq_true_eq]
  constructor
  · rintro ⟨x, hx, h⟩
    have e : x = i := by simpa [eqV] using h
    exact e ▸ hx
  · intro h
    exact ⟨i, h, by simp [eqV]⟩
theorem flat_vis (cs : List Int) : (vis cs).all flatV = true := by
  rw [List.all_eq_true]
  intro x hx
  obtain ⟨n, _, rfl⟩ := List.mem_map.mp hx
  rfl
theorem replC (a : List Nat) (b c : Nat) : Txt.replace (S a) (S [b]) (S [c]) = S (a.map fun x => if x = b then c else x) := str_ext (by
  rw [StrLaws.replace_list (by rw [S_len]; exact Nat.le_refl 1)]
  exact replL_one b c a)
section
variable {K : PySem.W.Frag}
theorem ro_inLi {i : Int} {cs : List Int} : Ro K (rIn K false) (.v (.int i)) (.l (vis cs)) (.b (decide (i ∈ cs))) := by
  have h := ro_inL (K := K) (neg := false) (x := .int i) (xs := vis cs) rfl (flat_vis cs)
  rw [if_neg Bool.false_ne_true, inV_int] at h
  exact h
theorem ro_inNi {i : Int} {cs : List Int} : Ro K (rIn K false) (.v (.int i)) (.n (vis cs)) (.b (decide (i ∈ cs))) := fun v w H1 a b => ro_inLi v w H1 a b.n2l
theorem ro_inUi {i : Int} {cs : List Int} : Ro K (rIn K false) (.v (.int i)) (.u (vis cs)) (.b (decide (i ∈ cs))) := by
  have h := ro_inU (K := K) (neg := false) (x := .int i) (xs := vis cs) rfl (flat_vis cs)
  rw [if_neg Bool.false_ne_true, inV_int] at h
  exact h
end

/-! ### rules that name K (for use within a comprehension) -/
section
variable {X : Cx} {K : PySem.W.Frag}
theorem op_in_k (h : X.K = K := by rfl) : OpR X (compareOp .In) (rIn K false) := h ▸ op_in_seq
theorem op_notIn_k (h : X.K = K := by rfl) : OpR X (compareOp .NotIn) (rIn K true) := h ▸ op_notIn_seq
theorem op_eqD_k (hu : X.A.units + 64 < cLine) (h : X.K = K := by rfl) : OpR X (compareOp .Eq) (rEqD K) := h ▸ op_eqD hu
theorem op_neD_k (hu : X.A.units + 64 < cLine) (h : X.K = K := by rfl) : OpR X (compareOp .NotEq) (rNeD K) := h ▸ op_neD hu
theorem ix_list_k (h : X.K = K := by rfl) : IxR X (rIxL K) := h ▸ ix_list
theorem ix_tup_k (h : X.K = K := by rfl) : IxR X (rIxT K) := h ▸ ix_tup
theorem sl_list_k (h : X.K = K := by rfl) : SlR X (rSlL K) := h ▸ sl_list
theorem cr_len_k (h : X.K = K := by rfl) : CallR X (.builtin "len") (rLenS K) := h ▸ cr_len
theorem cr_list_k (h : X.K = K := by rfl) : CallR X (.type "list") (rListS K) := h ▸ cr_list
theorem cr_tuple_k (h : X.K = K := by rfl) : CallR X (.type "tuple") (rTupS K) := h ▸ cr_tuple
theorem cr_isi_k (h : X.K = K := by rfl) : CallR X (.builtin "isinstance") (rIsi K) := h ▸ cr_isi
theorem mt_join_k (h : X.K = K := by rfl) : MtR X "str.join" (rJoin K) := h ▸ mt_joinN
theorem mt_count_k (h : X.K = K := by rfl) : MtR X "list.count" (rCntS K) := h ▸ mt_scount
theorem pi_list_k {tg l : Expr} {tl : TE} (h : PE X l tl) (hK : X.K = K := by rfl) : PI X tg l (iList K tl) := hK ▸ pi_list h
theorem pi_tup_k {tg l : Expr} {tl : TE} (h : PE X l tl) (hK : X.K = K := by rfl) : PI X tg l (iTup K tl) := hK ▸ pi_tup h
theorem pe_bm_k {o e : Expr} {es : List Expr} {to : TE} {t : TA} {name : Str} {apos cpos : Pos} {T id : String} {r : V → List V → Hp → VK → Prop} (pa : PlainAttrs T) (slot : Slot T name id) (hty : typeOf (.builtin id) = pure (.type "method_descriptor")) (hm : MtR X id r) (ho : PE X o to) (ha : PA X (e :: es) t)
    (hK : X.K = K := by rfl) (hbase : attributeBase o name X.env (eval o X.env) = eval o X.env := by rfl)
    (hfew : ((backTo cpos (starEach (e :: es) X.env)).all (fun x => !x.1) && (backToKw cpos (keywordEach [] X.env)).all (fun x => x.1.isSome)
      && decide ((e :: es).length + ([] : List Keyword).length + (if ([] : List Keyword).isEmpty then 0 else 1) < 30)) = true := by rfl)
    (hline : (apos.endLine == cpos.line) = true := by rfl) (hs : starEach (e :: es) X.env = (false, eval e X.env) :: starEach es X.env := by rfl) (hplain : (backTo cpos (starEach es X.env)).any (·.1) = false := by rfl) :
    PE X (.Call (.Attribute o name apos) (e :: es) [] cpos) (tBM K T r to t) := hK ▸ pe_bm pa slot hty hm ho ha hbase hfew hline hs hplain
end

theorem ro_1018 {K : PySem.W.Frag} : Ro K (rI CPow fun i j => .int (i ^ j.toNat)) (.v (.int 10)) (.v (.int 18)) (.v (.int 1000000000000000000)) := ro_I (K := K) (C := CPow) (g := fun i j => .int (i ^ j.toNat)) (i := 10) (j := 18) ⟨by decide, by decide, by decide⟩
theorem getD_vis {ns : List Int} {j : Nat} (h : j < ns.length) : (vis ns).getD j .non = .int (ns.getD j 0) := by
  rw [List.getD_eq_getElem?_getD, List.getD_eq_getElem?_getD, List.getElem?_map, List.getElem?_eq_getElem h]
  rfl
theorem vis_at {ns : List Int} {i : Nat} {x : V} (h : (vis ns)[i]? = some x) : ∃ n, ns[i]? = some n ∧ V.int n = x := by
  rw [List.getElem?_map] at h
  cases q : ns[i]? with
  | none => rw [q] at h; cases h
  | some n => rw [q] at h; exact ⟨n, rfl, Option.some.inj h⟩
theorem map_take_next {α β : Type} {l : List α} {f : α → β} {i : Nat} {x : α} (h : l[i]? = some x) : (l.take (i + 1)).map f = (l.take i).map f ++ [f x] := by
  rw [List.take_add_one, h, List.map_append]
  rfl
theorem zipIdx_at {α : Type} {l : List α} {i : Nat} {x : α} (h : l[i]? = some x) : l.zipIdx[i]? = some (x, i) := by
  rw [List.getElem?_zipIdx, h]
  simp

theorem vis_app (a : List Int) (n : Int) : vis (a ++ [n]) = vis a ++ [.int n] := by
  rw [vis, List.map_append]
  rfl
theorem vss_app (a : List Str) (n : Str) : vss (a ++ [n]) = vss a ++ [.str n] := by
  rw [vss, List.map_append]
  rfl

section
variable {K : PySem.W.Frag} {σ : L2.St} {H : Hp} {te ta tb tc : TE} {x y : V} {b : Bool}
/-- [x, y][int(b)] -/
theorem er_pick (h1 : Er K ta σ H (.v x)) (h2 : Er K tb σ H (.v y)) (hb : Er K tc σ H (.b b)) : Er K (tOp (rIxL K) (tLst (tCons ta (tCons tb tNil))) (tCB rInt1 (tCons tc tNil))) σ H (.v (if b = true then y else x)) := by
  refine er_op (d1 := .n [x, y]) (d2 := .i (if b then 1 else 0)) (er_lst (vs := [x, y]) (era_cons h1 (era_cons h2 era_nil)) (by simp)) (er_cb (era_cons hb era_nil) rc_intB) ?_
  cases b with
  | true => exact ro_ixN (by decide) rfl
  | false => exact ro_ixN (by decide) rfl
end
theorem cutS_to (l : List Nat) (n : Nat) : cutS (S l) none (some (n : Int)) = S (l.take n) := by
  unfold cutS
  rw [HT.sIx_none, HT.sIx_nat]
  show S _ = S _
  congr 1
  rw [List.drop_zero, S_list, S_len, Nat.sub_zero, List.take_eq_take_iff]
  omega
theorem cutS_from (l : List Nat) (n : Nat) : cutS (S l) (some (n : Int)) none = S (l.drop n) := by
  unfold cutS
  rw [HT.sIx_none, HT.sIx_nat, S_len, S_list]
  show S _ = S _
  congr 1
  by_cases h : n ≤ l.length
  · rw [Nat.min_eq_left h, List.take_of_length_le (by rw [List.length_drop]; exact Nat.le_refl _)]
  · rw [Nat.min_eq_right (by omega), List.drop_of_length_le (by omega : l.length ≤ n), List.drop_length]
    simp
theorem cutV_from (l : List V) (n : Nat) : cutV l (some (n : Int)) none = l.drop n := by
  unfold cutV
  rw [HT.sIx_none, HT.sIx_nat]
  by_cases h : n ≤ l.length
  · rw [Nat.min_eq_left h, List.take_of_length_le (by rw [List.length_drop]; exact Nat.le_refl _)]
  · rw [Nat.min_eq_right (by omega), List.drop_of_length_le (by omega : l.length ≤ n), List.drop_length]
    simp
theorem cutV_mid (l : List V) (n m : Nat) (h : n ≤ m) (hm : m ≤ l.length) : cutV l (some (n : Int)) (some (m : Int)) = (l.drop n).take (m - n) := by
  unfold cutV
  simp only [HT.sIx_nat, Nat.min_eq_left hm, Nat.min_eq_left (Nat.le_trans h hm)]
section
variable {K : PySem.W.Frag} {σ : L2.St} {H : Hp} {te ta tb : TE}
theorem er_slTo {l : List Nat} {n : Nat} (h : Er K te σ H (.s (S l))) (hz : l.length ≤ 100000) (h2 : Er K tb σ H (.i (n : Int))) : Er K (tSl rSlS te tNoPart (tPart tb)) σ H (.s (S (l.take n))) := by
  rw [← cutS_to]
  exact er_slS h (by rw [S_len]; exact hz) eo_non (eo_of h2)
theorem er_slFrom {l : List Nat} {n : Nat} (h : Er K te σ H (.s (S l))) (hz : l.length ≤ 100000) (h2 : Er K tb σ H (.i (n : Int))) : Er K (tSl rSlS te (tPart tb) tNoPart) σ H (.s (S (l.drop n))) := by
  rw [← cutS_from]
  exact er_slS h (by rw [S_len]; exact hz) (eo_of h2) eo_non
theorem vis_drop (ns : List Int) (n : Nat) : (vis ns).drop n = vis (ns.drop n) := by rw [vis, ← List.map_drop]
theorem vis_take (ns : List Int) (n : Nat) : (vis ns).take n = vis (ns.take n) := by rw [vis, ← List.map_take]
theorem er_slvFrom {ns : List Int} {n : Nat} (h : Er K te σ H (.l (vis ns))) (h2 : Er K tb σ H (.i (n : Int))) : Er K (tSl (rSlL K) te (tPart tb) tNoPart) σ H (.n (vis (ns.drop n))) := by
  rw [← vis_drop, ← cutV_from]
  exact er_slL h (eo_of h2) eo_non
theorem er_slvMid {ns : List Int} {n m : Nat} (h : Er K te σ H (.l (vis ns))) (h1 : Er K ta σ H (.i (n : Int))) (h2 : Er K tb σ H (.i (m : Int))) (hnm : n ≤ m) (hm : m ≤ ns.length) : Er K (tSl (rSlL K) te (tPart ta) (tPart tb)) σ H (.n (vis ((ns.drop n).take (m - n)))) := by
  rw [← vis_take, ← vis_drop, ← cutV_mid _ _ _ hnm (by rw [List.length_map]; exact hm)]
  exact er_slL h (eo_of h1) (eo_of h2)
end
end Mi

set_option maxHeartbeats 2000000
namespace Mi
open PySem PySem.Spec PyProof.Rows L2 Evl
section
variable {K : PySem.W.Frag} {σ : L2.St} {H H0 H' : Hp} {te ta tb : TE} {t u : TT} {a b : Bool} {d d' : Dd} {D : Ends} {tu tw tz : TS} {x y : V}
/-- if c: x = e, over texts of one sign -/
theorem a_ifSetC {i c e : Nat} (h : Et K t σ H b) (h1 : b = true → Er K te σ H (.s (S [c]))) (h2 : σ.set i (some (.str (S [e]))) = σ) (k : ∀ H1, Ex H H1 → tz D (σ.set i (some (.str (S [if b = true then c else e])))) H1) : tSeq (tIfS t (tAsg te (gName i)) tNext) tz D σ H :=
  a_ifAsg (x := .str (S [if b = true then c else e])) h (fun hb => by rw [if_pos hb]; exact h1 hb) (fun hb => by rw [if_neg (by rw [hb]; exact Bool.false_ne_true)]; exact h2) k
theorem er_pickC {c e : Nat} (h1 : Er K ta σ H (.s (S [c]))) (h2 : Er K tb σ H (.s (S [e]))) (hb : Er K te σ H (.b b)) : Er K (tOp (rIxL K) (tLst (tCons ta (tCons tb tNil))) (tCB rInt1 (tCons te tNil))) σ H (.s (S [if b = true then e else c])) := by
  have h := er_pick h1 h2 hb
  have e0 : (if b = true then V.str (S [e]) else V.str (S [c])) = V.str (S [if b = true then e else c]) := by cases b <;> rfl
  rw [e0] at h
  exact h
end
end Mi

set_option maxHeartbeats 4000000
namespace Mi
open PySem PySem.Spec PyProof.Rows L2 Evl PySem.W

/-! ### an object of ours that was not tracked is tracked from here on -/
theorem inv_track {X : Cx} {pins : List (Addr × Obj)} {σ : L2.St} {H : Hp} {s : Shared} {hp : Heap} {tn : Nat} {ch : List Addr} {T : Addr} {ob : HO} (I : Inv X pins σ H s) (kp : ∀ b o, b ∉ ch → s.heap.get? b = some o → hp.get? b = some o) (ok : ∀ b ∈ ch, FpOk X pins H b) (hT : T ∈ ch)
    (new : ObjOk X.prog X.w (upd H T ob) hp T ob) : Inv X pins σ (upd H T ob) { s with heap := hp, toks := tn } := by
  have hN : H T = none := (ok T hT).1
  have away : ∀ b u, H b = some u → b ∉ ch := fun b u e z => by
    rw [(ok b z).1] at e
    cases e
  have same : ∀ {b u}, H b = some u → upd H T ob b = some u := fun {b u} e => by
    have hb : b ≠ T := fun z => by rw [z, hN] at e; cases e
    rw [upd_ne hb]
    exact e
  refine I.step (ch := ch) ?a1 ?a2 ?a3 ?a4 ?a5 ?a6 ?a7 ?a8 ?a9 ?b1 I.bare
  case a1 => exact fun b hb => ⟨(ok b hb).2.2.2.1, (ok b hb).2.1, (ok b hb).2.2.2.2.1, (ok b hb).2.2.2.2.2⟩
  case a2 => exact fun b o _ _ hc e _ => kp b o hc e
  case a3 => exact fun b o _ _ hc e _ => ⟨o.slots, kp b o hc e⟩
  case a4 =>
    intro b o hc e n
    have hb : b ≠ T := by
      rintro rfl
      exact hc hT
    rw [upd_ne hb]
    exact n
  case a5 => exact fun b o hc e => ⟨o, kp b o hc e⟩
  case a6 => exact fun b xs e => same e
  case a7 => exact fun b o u e => same e
  case a8 =>
    intro b ps e
    refine ⟨#[], ?_⟩
    rw [same e]
    simp
  case a9 =>
    rintro m ⟨o, es, ep, ho, r⟩
    exact ⟨o, es, ep, kp _ o (fun z => (ok _ z).2.1 rfl) ho, r⟩
  case b1 =>
    intro b u e
    by_cases hb : b = T
    · subst hb
      rw [upd_same] at e
      cases e
      exact new
    · rw [upd_ne hb] at e
      refine (I.hok b u e).stay (fun c v hc z => kp c v ?_ z) (fun c z => same z) fun c xs z => same z
      rcases hc with z | z
      · exact z ▸ away b u e
      · exact away c _ z

/-! ### sorted by a def that answers its text -/
abbrev spId (K : PySem.W.Frag) : Sp := spR K (fun _ : List Nat => True) (fun a => [.s (S a)]) fun a => .s (S a)
def ordd (b : Bool) (ys : List (List Nat)) : List (List Nat) := ys.mergeSort (if b = true then fun x y => decide (y ≤ x) else fun x y => decide (x ≤ y))
def IsT (u : Value) (z : List Nat) : Prop := ∃ t, u = .str (S z) t
theorem each_of_vals : ∀ {ys : List (List Nat)} {us : List Value}, Vals (vss (ys.map S)) us → EachIs IsT us ys
  | [], _, h => by cases h; exact .nil
  | z :: r, _, h => by
    cases h with
    | cons a b => exact .cons a (each_of_vals b)
theorem vals_of_each : ∀ {us : List Value} {ys : List (List Nat)}, EachIs IsT us ys → Vals (vss (ys.map S)) us
  | _, _, .nil => .nil
  | _, _, .cons a b => .cons a (vals_of_each b)
theorem each_more {u : Value} {z : List Nat} (hu : IsT u z) : ∀ {us : List Value} {ys : List (List Nat)}, EachIs IsT us ys → EachIs IsT (us ++ [u]) (ys ++ [z])
  | _, _, .nil => .cons hu .nil
  | _, _, .cons a b => .cons a (each_more hu b)
theorem reads_of_each {hp : Heap} {us : List Value} {ys : List (List Nat)} (h : EachIs IsT us ys) : EachIs (fun v d => ∃ as, Reads hp v d as) us (ys.map fun z => PyData.str (S z)) := by
  induction h with
  | nil => exact .nil
  | cons a b ih =>
    obtain ⟨t, rfl⟩ := a
    exact .cons ⟨[], .str _ t⟩ ih
theorem dataLe_S (b : Bool) : dataLe b (fun z : List Nat => PyData.str (S z)) = if b = true then fun x y => decide (y ≤ x) else fun x y => decide (x ≤ y) := by
  cases b
  · rw [dataLe_str]; rfl
  · rw [dataGe_str]; rfl
/-- the heap without the object at k -/
def less (hp : Heap) (k : Addr) : Heap := hp.update k fun o => { o with data := .freed }
theorem less_at {hp : Heap} {k : Addr} {o : Obj} (h : hp.get? k = some o) : (less hp k).get? k = none := by
  cases hp with
  | mk objs l =>
    unfold less Heap.update Heap.get?
    simp only [Array.getElem?_modify, if_true]
    cases e : objs[k]? with
    | none => rfl
    | some q => rfl
theorem less_ne {hp : Heap} {k c : Addr} (h : c ≠ k) : (less hp k).get? c = hp.get? c := by
  unfold less
  rw [Heap.get?_update_ne _ _ _ _ h]
theorem each_at : ∀ {us : List Value} {ys : List (List Nat)} {i : Nat} {u : Value}, EachIs IsT us ys → us[i]? = some u → ∃ z, ys[i]? = some z ∧ IsT u z
  | [], _, _, _, _, h => by simp at h
  | _ :: _, _, 0, _, e, h => by
    cases e with
    | cons a b => exact ⟨_, rfl, Option.some.inj h ▸ a⟩
  | _ :: _, _, i + 1, _, e, h => by
    cases e with
    | cons a b => exact each_at (i := i) b h
theorem sorted_def {X : Cx} {k : Nat} {f : Addr} {fd : FuncData} {pn : Str} {b : Bool} {kw : List (Str × Value)} {pins : List (Addr × Obj)} {s : Shared} {σ : L2.St} {H : Hp} {a : Addr} {ys : List (List Nat)} {Q : VK}
    (F : FnOk X.prog X.w X.K X.mg X.base CX0 k f fd [pn] (spId X.K)) (hb : Binds X.K fd [pn] []) (hr : Room (k + 2) X.A) (I : Inv X pins σ H s) (hs : SqL X.K H a (vss (ys.map S)))
    (ha1 : argsOk "sorted" ⟨[.ref a], kw⟩) (ha2 : ∀ x, argsOk "list.sort" ⟨[.ref x], kw⟩) (ht : ∀ x, Builtin.«list.sort» ⟨[.ref x], kw⟩ = ksk_tree x (.ref f) b)
    (q : ∀ H2 p, Ex H H2 → H2 p = none → Q (.ref p) (upd H2 p (.lst (vss ((ordd b ys).map S))))) :
    wpAny (model X.prog X.w) X.A (call (.builtin "sorted") [.ref a] kw) (EP X pins σ Q) X.xe s := by
  obtain ⟨its, rv, hl, hz⟩ := I.list hs
  have hev := each_of_vals rv
  have hle : its.length = ys.length := hev.length
  have hZ : its.length ≤ sizeLine := by rw [← rv.length]; exact hz
  have un : X.A.in1.in1.units < cLine := by
    have h := hr.un
    show X.A.units + 1 + 1 < cLine
    omega
  have hr2 : Room k X.A.in1.in1 := (Room.in1 (show Room (k + 1 + 1) X.A from hr)).in1
  refine sorted_of_sort hl.isList hZ ha1 ha2 fun E' => ?_
  rw [ht]
  have hD := copyHeap_at s.heap its
  generalize eD : s.heap.objs.size + 1 = D at hD ⊢
  have hDs : D < (copyHeap s.heap its).objs.size := Heap.lt_size hD
  obtain ⟨e1, hD1⟩ : ∃ e1, ((copyHeap s.heap its).update D (Obj.mapSeq fun _ => (#[] : Array Value))).get? D = some (seqObj "list" #[] e1) := ⟨_, get?_update_seq hD fun _ => #[]⟩
  unfold ksk_tree
  refine wpAny_bind (listItems_at (s := { s with heap := copyHeap s.heap its }) hD rfl ?_)
  refine wpAny_bind (listUpdate_at (s := { s with heap := copyHeap s.heap its }) hD rfl ?_ (by rw [List.size_toArray]; exact hZ) (Nat.zero_le _))
  refine wpAny_bind (seqEpoch_at (s := { s with heap := (copyHeap s.heap its).update D (Obj.mapSeq fun _ => (#[] : Array Value)) }) hD1 rfl ?_)
  refine wpAny_bind (wpAny_newTuple ?_ (show its.length ≤ _ from hZ))
  refine wpAny_bind (wpAny_newList ?_ (Nat.zero_le _))
  refine wpAny_holding ?_
  have oldC : ∀ c o, s.heap.get? c = some o → c ≠ D ∧ (copyHeap s.heap its).get? c = some o := fun c o e => ⟨fun z => by
    have h1 : c < s.heap.objs.size := Heap.lt_size e
    rw [z, ← eD] at h1
    exact absurd h1 (Nat.not_lt.mpr (Nat.le_succ _)), copyHeap_old e⟩
  have dge : s.heap.objs.size ≤ D := Nat.le_of_succ_le (Nat.le_of_eq eD)
  have szK : (((copyHeap s.heap its).update D (Obj.mapSeq fun _ => (#[] : Array Value))).push (seqObj "tuple" its.toArray 0)).objs.size = (copyHeap s.heap its).objs.size + 1 := by rw [size_push', Heap.size_update]
  have hK : ((((copyHeap s.heap its).update D (Obj.mapSeq fun _ => (#[] : Array Value))).push (seqObj "tuple" its.toArray 0)).push (seqObj "list" #[] 0)).get? (((copyHeap s.heap its).update D (Obj.mapSeq fun _ => (#[] : Array Value))).push (seqObj "tuple" its.toArray 0)).objs.size = some (seqObj "list" #[] 0) := Heap.get?_push_size _ rfl
  have hD2 : ((((copyHeap s.heap its).update D (Obj.mapSeq fun _ => (#[] : Array Value))).push (seqObj "tuple" its.toArray 0)).push (seqObj "list" #[] 0)).get? D = some (seqObj "list" #[] e1) := Heap.get?_push_of_some _ (Heap.get?_push_of_some _ hD1)
  have old2 : ∀ c o, s.heap.get? c = some o → ((((copyHeap s.heap its).update D (Obj.mapSeq fun _ => (#[] : Array Value))).push (seqObj "tuple" its.toArray 0)).push (seqObj "list" #[] 0)).get? c = some o := fun c o e => by
    obtain ⟨c1, c2⟩ := oldC c o e
    exact Heap.get?_push_of_some _ (Heap.get?_push_of_some _ ((Heap.get?_update_ne _ _ _ _ c1).trans c2))
  have hKge : s.heap.objs.size ≤ (((copyHeap s.heap its).update D (Obj.mapSeq fun _ => (#[] : Array Value))).push (seqObj "tuple" its.toArray 0)).objs.size := by rw [szK]; omega
  have hDK : D ≠ (((copyHeap s.heap its).update D (Obj.mapSeq fun _ => (#[] : Array Value))).push (seqObj "tuple" its.toArray 0)).objs.size := by rw [szK]; omega
  show wpAny _ _ (ksk_rest D (.ref f) b its.toArray e1 (.ref (((copyHeap s.heap its).update D (Obj.mapSeq fun _ => (#[] : Array Value))).push (seqObj "tuple" its.toArray 0)).objs.size)) _ _ { s with heap := ((((copyHeap s.heap its).update D (Obj.mapSeq fun _ => (#[] : Array Value))).push (seqObj "tuple" its.toArray 0)).push (seqObj "list" #[] 0)) }
  revert hK hD2 old2 hKge hDK
  generalize (((copyHeap s.heap its).update D (Obj.mapSeq fun _ => (#[] : Array Value))).push (seqObj "tuple" its.toArray 0)).objs.size = kS
  generalize ((((copyHeap s.heap its).update D (Obj.mapSeq fun _ => (#[] : Array Value))).push (seqObj "tuple" its.toArray 0)).push (seqObj "list" #[] 0)) = hh
  intro hK hD2 old2 hKge hDK
  have I2 : Inv X pins σ H { s with heap := hh } := I.kept (t' := s.toks) old2
  have hDge : s.heap.objs.size ≤ D := dge
  have fD : FpOk X pins H D := I.fpOk hDge (I.hok.fresh hDge)
  have fK : FpOk X pins H kS := I.fpOk hKge (I.hok.fresh hKge)
  have repin : ∀ {H' : Hp} {t : Shared} {kA : Array Value} {e : Nat}, Inv X pins σ H' t → t.heap.get? D = some (seqObj "list" #[] e1) → H' D = none → t.heap.get? kS = some (seqObj "list" kA e) → H' kS = none → Inv X (pins ++ [(D, seqObj "list" #[] e1), (kS, seqObj "list" kA e)]) σ H' t := by
    intro H' t kA e J d1 d2 k1 k2
    refine J.pins_of fun p hp => ?_
    rcases List.mem_append.mp hp with h | h
    · exact J.pin p (List.mem_append_right _ h)
    · rcases List.mem_cons.mp h with rfl | h
      · exact ⟨d1, d2, fD.2.1, fD.2.2.1, fun v => by simp [seqObj]⟩
      · rw [List.mem_singleton.mp h]
        exact ⟨k1, k2, fK.2.1, fK.2.2.1, fun v => by simp [seqObj]⟩
  unfold ksk_rest
  refine wpAny_bind (wpAny_rule ?_)
  first
    | rw [List.forIn_toArray]
    | (rw [← Array.forIn_toList]; simp only [List.toList_toArray])
    | rw [← Array.forIn_toList]
  refine wpAny_bind (ksk_fold (fun i t => ∃ H' kA e, Ex H H' ∧ Inv X (pins ++ [(D, seqObj "list" #[] e1), (kS, seqObj "list" kA e)]) σ H' t ∧ EachIs IsT kA.toList (ys.take i)) its 0 { s with heap := hh } ⟨H, #[], 0, Ex.refl H, repin I2 hD2 fD.1 hK fK.1, by rw [List.take_zero]; exact .nil⟩ ?turn ?over)
  case turn =>
    rintro j x t hx ⟨H', kA, e, hex, J, hk⟩
    simp only [Nat.zero_add] at hk ⊢
    obtain ⟨z, hz1, tz, rfl⟩ := each_at hev hx
    have hj : j < its.length := (List.getElem?_eq_some_iff.mp hx).1
    have hkz : kA.size ≤ its.length := by
      have h1 := hk.length
      rw [Array.length_toList, List.length_take] at h1
      omega
    have call1 : wpAny (model X.prog X.w) X.A.in1.in1 (call (.ref f) [.str (S z) tz]) (EP X (pins ++ [(D, seqObj "list" #[] e1), (kS, seqObj "list" kA e)]) σ fun v H2 => v = .str (S z) ∧ Ex H' H2) (fun _ _ => False) t := by
      have rx : Vals [V.str (S z)] [Value.str (S z) tz] := .cons ⟨tz, rfl⟩ .nil
      have hsp : spId X.K [V.str (S z)] H' (fun v H2 => v = .str (S z) ∧ Ex H' H2) E0 := ⟨z, trivial, .cons rfl .nil, fun v H2 ee hv => ⟨hv, ee⟩⟩
      have bd := hb t [.str (S z) tz] J.kIn rfl
      refine wpAny_call (codeAny_mono (F.run X.A.in1.in1 X.stack t H' ⟨[.str (S z) tz], []⟩ _ _ _ E0 hr2 J.env0.in1.in1 bd rx hsp) fun r t' hq => ?_)
      cases r with
      | error e => exact hq.elim
      | ok fl =>
        cases fl with
        | ret u => exact J.after hq
        | next => exact hq.elim
        | brk => exact hq.elim
        | cont => exact hq.elim
    refine wpAny_bind (wpAny_attempt (wpAny_mono call1 (fun u t2 hu => ?_) fun _ _ hF => False.elim hF))
    obtain ⟨v, H2, J2, ru, rfl, hex2⟩ := hu
    obtain ⟨tu, rfl⟩ := ru
    have pD := J2.pin (D, seqObj "list" #[] e1) (List.mem_append_right _ (List.mem_append_right _ (.head _)))
    have pK := J2.pin (kS, seqObj "list" kA e) (List.mem_append_right _ (List.mem_append_right _ (.tail _ (.head _))))
    try dsimp only
    obtain ⟨c2, hc2⟩ : ∃ c2, (t2.heap.update kS (Obj.mapSeq (·.push (.str (S z) tu)))).get? kS = some (seqObj "list" (kA.push (.str (S z) tu)) c2) := ⟨_, get?_update_seq pK.1 (·.push _)⟩
    have keepK : ∀ b o, b ∉ [kS] → t2.heap.get? b = some o → (t2.heap.update kS (Obj.mapSeq (·.push (.str (S z) tu)))).get? b = some o := fun b o hb ho => (Heap.get?_update_ne _ _ _ _ (fun z => hb (by rw [z]; exact .head _))).trans ho
    have hsz2 : (kA.push (.str (S z) tu)).size ≤ sizeLine + 1 := by
      rw [Array.size_push]
      omega
    refine wpAny_bind (listUpdate_at pK.1 rfl ?_ (by omega) hsz2)
    refine wpAny_pure ⟨rfl, H2, kA.push (.str (S z) tu), c2, hex.trans hex2, ?_, ?_⟩
    · refine repin (Inv.turnedL (t' := t2.toks) J2.unpinned keepK (fun b hb => ?_)) ?_ pD.2.1 hc2 pK.2.1
      · rw [List.mem_singleton.mp hb]
        exact ⟨pK.2.1, fK.2⟩
      · exact keepK D _ (fun h => hDK (List.mem_singleton.mp h)) pD.1
    · have ek : ys.take (j + 1) = ys.take j ++ [z] := by rw [List.take_add_one, hz1]; rfl
      rw [ek, Array.toList_push]
      exact each_more ⟨tu, rfl⟩ hk
  case over =>
    rintro t ⟨H', kA, e, hex, J, hk⟩
    have e3 : ys.take (0 + its.length) = ys := List.take_of_length_le (by omega)
    rw [e3] at hk
    have hsz : kA.size = its.length := by
      have h1 := hk.length
      rw [Array.length_toList] at h1
      omega
    have pD := J.pin (D, seqObj "list" #[] e1) (List.mem_append_right _ (List.mem_append_right _ (.head _)))
    have pK := J.pin (kS, seqObj "list" kA e) (List.mem_append_right _ (List.mem_append_right _ (.tail _ (.head _))))
    try dsimp only
    refine wpAny_bind (listItems_at pK.1 rfl ?_)
    have alk : AllAlike (ys.map fun z => PyData.str (S z)) := AllAlike.of fun _ _ => rfl
    have srt : Sortable (ys.map fun z => PyData.str (S z)) := Sortable.others fun z => ⟨by simp, fun xs => by simp⟩
    have dep : ∀ d, d ∈ ys.map (fun z => PyData.str (S z)) → X.A.in1.in1.units + d.depth < cLine := fun d hd => by
      obtain ⟨z, _, rfl⟩ := List.mem_map.mp hd
      show X.A.in1.in1.units + 0 < cLine
      omega
    have rd := reads_of_each (hp := t.heap) hk
    have kb : KeepsBut D (less t.heap kS) t.heap := fun c o hc ho => by
      have hck : c ≠ kS := fun z => by rw [z, less_at pK.1] at ho; cases ho
      rw [less_ne hck] at ho
      exact ho
    refine keyH_end (κ := dataKind t.heap (ys.map fun z => PyData.str (S z))) (h₁ := less t.heap kS) kb (less_at pK.1) pK.1 pD.1 (Ne.symm hDK) (SortsAt.data rd alk srt dep) hsz hZ fun h4 tk c k4 n4 => ⟨rfl, ?_⟩
    have out1 : EachIs IsT (sortVals (dataKind t.heap (ys.map fun z => PyData.str (S z))) b kA.toList its) (ys.mergeSort (dataLe b fun z => PyData.str (S z))) := keyedOut_each (rev := b) (fun z => PyData.str (S z)) ⟨t.heap, kA.toList, alk, rfl, rd⟩ hev
    rw [dataLe_S] at out1
    have keep4 : ∀ c o, c ∉ [kS, D] → t.heap.get? c = some o → h4.get? c = some o := fun c o hc ho => by
      refine k4 c o (fun z => hc (by rw [z]; simp)) ?_
      rw [less_ne (fun z => hc (by rw [z]; simp))]
      exact ho
    have hlen4 : (vss ((ordd b ys).map S)).length ≤ sizeLine := by
      unfold vss ordd
      rw [List.length_map, List.length_map, List.length_mergeSort]
      omega
    have J4 : Inv X pins σ (upd H' D (.lst (vss ((ordd b ys).map S)))) { t with heap := h4, toks := tk } := by
      refine inv_track J.unpinned keep4 (fun c hc => ?_) (by simp) ⟨hlen4, _, c, vals_of_each out1, n4⟩
      rcases List.mem_cons.mp hc with rfl | hc
      · exact ⟨pK.2.1, fK.2⟩
      · rw [List.mem_singleton.mp hc]
        exact ⟨pD.2.1, fD.2⟩
    exact ⟨.ref D, _, J4, rfl, q H' D hex pD.2.1⟩

/-- sorted(e, key=f[, reverse=True]), f a def of the text -/
def rSortD (K : PySem.W.Frag) (b : Bool) (vs : List V) (H : Hp) (Q : VK) : Prop := ∃ (a : Addr) (ys : List (List Nat)), vs = [.ref a] ∧ SqL K H a (vss (ys.map S)) ∧ ∀ H2 p, Ex H H2 → H2 p = none → Q (.ref p) (upd H2 p (.lst (vss ((ordd b ys).map S))))
def tSortD (K : PySem.W.Frag) (b : Bool) (t : TE) : TE := fun σ H Q => tCons t tNil σ H fun vs H1 => rSortD K b vs H1 Q
section
variable {X : Cx} {k : Nat} {x pn : Str} {p px pos k1 k2 : Pos} {e : Expr} {t : TE}
theorem pe_sortD (F : Has X.prog X.w X.K X.mg X.base k x [pn] (spId X.K)) (hr : Room (k + 2) X.A) (hg : Gl X "sorted") (hm : X.mg "sorted" = none) (hgx : Gl X x) (he : PA X [e] (tCons t tNil)) (hdb : (x == ("__debug__" : Str)) = false := by decide)
    (hs : backTo pos (starEach [e] X.env) = (false, eval e X.env) :: backTo pos (starEach [] X.env) := by rfl) (hpl : (backTo pos (starEach [e] X.env)).any (·.1) = false := by rfl)
    (hall : (backToKw pos (keywordEach [⟨some "key", .Name x px, k1⟩] X.env)).all (·.1.isSome) = true := by rfl) (hnone : (backToKw pos (keywordEach [⟨some "key", .Name x px, k1⟩] X.env)).any (·.1.isNone) = false := by rfl) (hks : (backToKw pos (keywordEach [⟨some "key", .Name x px, k1⟩] X.env)).filterMap (·.1) = [Str.ofString "key"] := by rfl) :
    PE X (.Call (.Name "sorted" p) [e] [⟨some "key", .Name x px, k1⟩] pos) (tSortD X.K false t) := by
  obtain ⟨f, fd, hmx, hk, F, hb, _⟩ := F.ex
  have hc : CallRK X (.builtin "sorted") [Str.ofString "key"] (fun vs zs H Q => zs = [.ref f] ∧ rSortD X.K false vs H Q) := by
    rintro pins s σ H vs zs us ws Q I r rz ⟨rfl, a, ys, rfl, hs, q⟩
    obtain rfl := Vals.ref1 r
    obtain ⟨w1, rfl, e1⟩ := vals1 rz
    obtain rfl : w1 = Value.ref f := e1
    exact sorted_def (b := false) F hb hr I hs (ksk_s1 _ _) (fun _ => ksk_l1 _ _) (fun x => ksk_t1 f x) q
  have P1 := pe_callBK (p := p) (pos := pos) hc hg hm (by rfl) he (pk_cons (pe_glob (pos := px) (v := .ref f) hgx hmx rfl hdb) pk_nil) (by decide) (by decide) hs hpl hall hnone hks
  refine ⟨fun pins s σ H Q I h => P1.run pins s σ H Q I ?_⟩
  show tCons t tNil σ H fun vs H1 => ([V.ref f] = [V.ref f]) ∧ rSortD X.K false vs H1 Q
  have e0 : (fun vs H1 => ([V.ref f] = [V.ref f]) ∧ rSortD X.K false vs H1 Q) = fun vs H1 => rSortD X.K false vs H1 Q := by
    funext vs H1
    simp
  rw [e0]
  exact h
theorem pe_sortDR (F : Has X.prog X.w X.K X.mg X.base k x [pn] (spId X.K)) (hr : Room (k + 2) X.A) (hg : Gl X "sorted") (hm : X.mg "sorted" = none) (hgx : Gl X x) (he : PA X [e] (tCons t tNil)) {pb : Pos} {kb : Nat} (hdb : (x == ("__debug__" : Str)) = false := by decide)
    (hs : backTo pos (starEach [e] X.env) = (false, eval e X.env) :: backTo pos (starEach [] X.env) := by rfl) (hpl : (backTo pos (starEach [e] X.env)).any (·.1) = false := by rfl)
    (hall : (backToKw pos (keywordEach [⟨some "key", .Name x px, k1⟩, ⟨some "reverse", .Constant (.bool true) kb pb, k2⟩] X.env)).all (·.1.isSome) = true := by rfl) (hnone : (backToKw pos (keywordEach [⟨some "key", .Name x px, k1⟩, ⟨some "reverse", .Constant (.bool true) kb pb, k2⟩] X.env)).any (·.1.isNone) = false := by rfl) (hks : (backToKw pos (keywordEach [⟨some "key", .Name x px, k1⟩, ⟨some "reverse", .Constant (.bool true) kb pb, k2⟩] X.env)).filterMap (·.1) = [Str.ofString "key", Str.ofString "reverse"] := by rfl) :
    PE X (.Call (.Name "sorted" p) [e] [⟨some "key", .Name x px, k1⟩, ⟨some "reverse", .Constant (.bool true) kb pb, k2⟩] pos) (tSortD X.K true t) := by
  obtain ⟨f, fd, hmx, hk, F, hb, _⟩ := F.ex
  have hc : CallRK X (.builtin "sorted") [Str.ofString "key", Str.ofString "reverse"] (fun vs zs H Q => zs = [.ref f, .bl true] ∧ rSortD X.K true vs H Q) := by
    rintro pins s σ H vs zs us ws Q I r rz ⟨rfl, a, ys, rfl, hs, q⟩
    obtain rfl := Vals.ref1 r
    obtain ⟨w1, w2, rfl, e1, e2⟩ := vals2 rz
    obtain rfl : w1 = Value.ref f := e1
    obtain rfl : w2 = Value.bool true := e2
    exact sorted_def (b := true) F hb hr I hs (ksk_s2 _ _ _) (fun _ => ksk_l2 _ _ _) (fun x => ksk_t2 f x true) q
  have P1 := pe_callBK (p := p) (pos := pos) hc hg hm (by rfl) he (pk_cons (pe_glob (pos := px) (v := .ref f) hgx hmx rfl hdb) (pk_cons pe_bl pk_nil)) (by decide) (by decide) hs hpl hall hnone hks
  refine ⟨fun pins s σ H Q I h => P1.run pins s σ H Q I ?_⟩
  show tCons t tNil σ H fun vs H1 => ([V.ref f, V.bl true] = [V.ref f, V.bl true]) ∧ rSortD X.K true vs H1 Q
  have e0 : (fun vs H1 => ([V.ref f, V.bl true] = [V.ref f, V.bl true]) ∧ rSortD X.K true vs H1 Q) = fun vs H1 => rSortD X.K true vs H1 Q := by
    funext vs H1
    simp
  rw [e0]
  exact h
end
section
variable {K : PySem.W.Frag} {σ : L2.St} {H : Hp} {te : TE}
theorem er_sortD {b : Bool} {ys : List (List Nat)} (h : Er K te σ H (.l (vss (ys.map S)))) : Er K (tSortD K b te) σ H (.n (vss ((ordd b ys).map S))) := fun H1 e Q q =>
  h H1 e _ fun v H2 e2 ⟨a, ea, ha⟩ => ⟨a, ys, by rw [ea], ha, fun H3 p e3 hp => q _ _ ((e2.trans e3).trans (Ex.new hp)) ⟨p, rfl, upd_same⟩⟩
end
end Mi

set_option maxHeartbeats 2000000
namespace Mi
open PySem PySem.Spec PyProof.Rows L2 Evl
abbrev vsl (L : List (List Nat)) : List V := vss (L.map S)
theorem vsl_len (L : List (List Nat)) : (vsl L).length = L.length := by simp [vss]
theorem vsl_app (L : List (List Nat)) (l : List Nat) : vsl (L ++ [l]) = vsl L ++ [.str (S l)] := by
  rw [vsl, List.map_append, vss, List.map_append]
  rfl
theorem vsl_at {L : List (List Nat)} {i : Nat} {x : V} (h : (vsl L)[i]? = some x) : ∃ l, L[i]? = some l ∧ V.str (S l) = x := by
  rw [List.getElem?_map, List.getElem?_map] at h
  cases q : L[i]? with
  | none => rw [q] at h; cases h
  | some l => rw [q] at h; exact ⟨l, rfl, Option.some.inj h⟩
section
variable {K : PySem.W.Frag} {σ : L2.St} {H H0 H' : Hp} {te ta tb : TE} {t u : TT} {a b : Bool} {d d' : Dd} {D : Ends} {tu tw tz : TS} {x y : V}
theorem a_ifSetS {i : Nat} {c e : List Nat} (h : Et K t σ H b) (h1 : b = true → Er K te σ H (.s (S c))) (h2 : σ.set i (some (.str (S e))) = σ) (k : ∀ H1, Ex H H1 → tz D (σ.set i (some (.str (S (if b = true then c else e))))) H1) : tSeq (tIfS t (tAsg te (gName i)) tNext) tz D σ H :=
  a_ifAsg (x := .str (S (if b = true then c else e))) h (fun hb => by rw [if_pos hb]; exact h1 hb) (fun hb => by rw [if_neg (by rw [hb]; exact Bool.false_ne_true)]; exact h2) k
theorem ro_ixSS {L : List (List Nat)} {i : Int} (h0 : 0 ≤ i) (h1 : i < L.length) : Ro K (rIxL K) (.l (vsl L)) (.v (.int i)) (.v (.str (S (L.getD i.toNat [])))) := by
  refine ro_ixL h0 ?_
  have h2 : i.toNat < L.length := by omega
  rw [List.getElem?_map, List.getElem?_map, List.getD_eq_getElem?_getD, List.getElem?_eq_getElem h2]
  rfl
theorem ro_ixSN {L : List (List Nat)} {i : Int} (h0 : 0 ≤ i) (h1 : i < L.length) : Ro K (rIxL K) (.n (vsl L)) (.v (.int i)) (.v (.str (S (L.getD i.toNat [])))) := fun v w H1 a b => ro_ixSS h0 h1 v w H1 a.n2l b
theorem rc_lenLL {L : List (List Nat)} : Rc K (rLenS K) [.l (vsl L)] (.v (.int (L.length : Int))) := by
  have h := rc_lenT (K := K) (ns := L.map S)
  rw [List.length_map] at h
  exact h
theorem rc_lenLN {L : List (List Nat)} : Rc K (rLenS K) [.n (vsl L)] (.v (.int (L.length : Int))) := by
  have h := rc_lenTN (K := K) (ns := L.map S)
  rw [List.length_map] at h
  exact h
/-- [n] * k -/
theorem er_same {n : Int} {k : Nat} (h : Er K te σ H (.i n)) (hk : k ≤ 1000) : Er K (tOp rRep (tLst (tCons te tNil)) (tC (.int (k : Int)))) σ H (.n (vis (List.replicate k n))) := by
  have e : vis (List.replicate k n) = (List.replicate k [V.int n]).flatten := by
    rw [vis, List.map_replicate, List.flatten_replicate_singleton]
  rw [e]
  exact er_op (er_lst (vs := [.int n]) (era_cons h era_nil) (by simp)) er_c (ro_rep (by simp; omega) (by omega))
end
theorem getD_memL {α : Type} {l : List α} {k : Nat} {z : α} (h : k < l.length) : l.getD k z ∈ l := by
  rw [List.getD_eq_getElem?_getD, List.getElem?_eq_getElem h]
  exact List.getElem_mem h
theorem getD_sz {l : List Int} {k : Nat} (h : k < l.length) : l.getD k 0 = l[k] := by
  rw [List.getD_eq_getElem?_getD, List.getElem?_eq_getElem h]
  rfl
end Mi

set_option maxHeartbeats 2000000
namespace Mi
open PySem PySem.Spec PyProof.Rows L2 Evl
section
variable {K : PySem.W.Frag} {σ : L2.St} {H H0 H' : Hp} {te ta tb : TE} {t u : TT} {a b : Bool} {d d' : Dd} {D : Ends} {tu tw tz : TS} {x y : V}
/-- if c: x = e else: x = f, both of one kind -/
theorem a_ifElse {i : Nat} (h : Et K t σ H b) (h1 : b = true → Er K ta σ H d) (h2 : b = false → Er K tb σ H d) (k : ∀ v H1, Ex H H1 → Is K H1 d v → tz D (σ.set i (some v)) H1) : tSeq (tIfS t (tAsg ta (gName i)) (tAsg tb (gName i))) tz D σ H :=
  a_if h (fun hb H1 e1 => a_asg1 (D := { D with nx := tz D }) ((h1 hb).mono e1) fun v H2 e2 z => k v H2 (e1.trans e2) z) (fun hb H1 e1 => a_asg1 (D := { D with nx := tz D }) ((h2 hb).mono e1) fun v H2 e2 z => k v H2 (e1.trans e2) z)
/-- a loop over a tuple that stands at l -/
theorem b_forU {l : Addr} {xs : List V} {tl : TE} {j : Nat} (h : Er K tl σ H (.v (.ref l))) (hx : SqT K H l xs) (Pv : Nat → L2.St → Hp → Prop) (h0 : ∀ H1, Ex H H1 → Pv 0 σ H1) (hl : ∀ i σ' H', i ≤ xs.length → Pv i σ' H' → SqT K H' l xs)
    (hs : ∀ i x σ' H', xs[i]? = some x → Pv i σ' H' → tu { D with nx := Pv (i + 1), ct := Pv (i + 1), bk := tz D } (σ'.set j (some x)) H') (hd : ∀ σ' H', Pv xs.length σ' H' → tz D σ' H') : tSeq (tFor (iTup K tl) (gName j) tu) tz D σ H :=
  h H (Ex.refl H) _ fun v H1 e z => by
    have ez : v = .ref l := z
    subst ez
    exact ⟨l, rfl, ⟨xs, ex_t e hx⟩, for_tup (D := { D with nx := tz D }) Pv (h0 H1 e) hl hs hd⟩
/-- a place of a list that was made here -/
theorem er_pos {xs : List V} {n : Nat} (h : Er K te σ H (.n xs)) (hx : xs[n]? = some x) : Er K (tOp (rIxL K) te (tC (.int (n : Int)))) σ H (.v x) :=
  er_op h er_c (ro_ixN (by omega) (by rw [Int.toNat_natCast]; exact hx))
end
theorem zipIdx_range (l : List Nat) : l.zipIdx = (List.range l.length).map fun k => (l.getD k 0, k) := by
  refine List.ext_getElem (by simp) fun i h1 h2 => ?_
  simp at h1 h2 ⊢
  rw [List.getElem?_eq_getElem (by omega)]
  rfl
end Mi

set_option maxHeartbeats 2000000
namespace Mi
open PySem PySem.Spec PyProof.Rows L2 Evl
theorem isAll_at {K : PySem.W.Frag} {H : Hp} : ∀ {ds : List Dd} {vs : List V} {i : Nat} {v : V}, IsAll K H ds vs → vs[i]? = some v → ∃ d, ds[i]? = some d ∧ Is K H d v
  | [], _, i, v, h, e => by cases h; simp at e
  | d :: ds, _, 0, v, h, e => by
    cases h with
    | cons a b => exact ⟨d, rfl, Option.some.inj e ▸ a⟩
  | d :: ds, _, i + 1, v, h, e => by
    cases h with
    | cons a b => exact isAll_at (i := i) b e
section
variable {K : PySem.W.Frag} {σ : L2.St} {H H0 H' : Hp} {te ta tb tc : TE} {t u : TT} {tr : TA} {a b : Bool} {d e d1 d2 : Dd} {D : Ends} {tu tw tz : TS} {x y : V}
/-- a loop over a list that is written out, its items of any kind -/
theorem a_forD {dss : List Dd} {j : Nat} (h : Era K tr σ H dss) (hz : dss.length ≤ 100000) (Pv : Nat → L2.St → Hp → Prop) (h0 : ∀ H1, Ex H H1 → Pv 0 σ H1)
    (hs : ∀ H1, Ex H H1 → ∀ i d v σ' H', dss[i]? = some d → (∀ H2, Ex H1 H2 → Is K H2 d v) → Pv i σ' H' → Ex H1 H' → tu { D with nx := fun σ2 H2 => Pv (i + 1) σ2 H2 ∧ Ex H1 H2, ct := fun σ2 H2 => Pv (i + 1) σ2 H2 ∧ Ex H1 H2, bk := D.nx } (σ'.set j (some v)) H')
    (hd : ∀ σ' H', Pv dss.length σ' H' → D.nx σ' H') : tFor (iList K (tLst tr)) (gName j) tu D σ H :=
  h H (Ex.refl H) _ fun vs H1 e1 z => by
    have len := z.len
    refine ⟨sz_of (by omega), fun p hp => ⟨p, rfl, ⟨vs, sq_of upd_same⟩, ?_⟩⟩
    have e2 : Ex H1 (upd H1 p (.lst vs)) := Ex.new hp
    have hq : (upd H1 p (.lst vs)) p = some (.lst vs) := upd_same
    have z2 := z.mono e2
    refine for_list (xs := vs) (fun i σ' H' => Pv i σ' H' ∧ Ex (upd H1 p (.lst vs)) H') ⟨h0 _ (e1.trans e2), Ex.refl _⟩ (fun i σ' H' _ q => sq_of (q.2 p _ hq)) (fun i v σ' H' hv q => ?_) fun σ' H' q => hd σ' H' (by rw [len]; exact q.1)
    obtain ⟨d, hd', hi⟩ := isAll_at z2 hv
    exact hs _ (e1.trans e2) i d v σ' H' hd' (fun H2 e3 => hi.mono e3) q.1 q.2
/-- [a, b][i], a and b of any kind -/
theorem er_pickD {i : Int} (h1 : Er K ta σ H d1) (h2 : Er K tb σ H d2) (hc : Er K tc σ H (.i i)) (hi : i = 0 ∨ i = 1) : Er K (tOp (rIxL K) (tLst (tCons ta (tCons tb tNil))) tc) σ H (if i = 0 then d1 else d2) := fun H1 e Q q =>
  h1 H1 e _ fun v1 H2 e2 z1 => h2 H2 (e.trans e2) _ fun v2 H3 e3 z2 => ⟨sz_of (by simp), fun p hp => by
    have e4 : Ex H3 (upd H3 p (.lst [v1, v2])) := Ex.new hp
    have hq : (upd H3 p (.lst [v1, v2])) p = some (.lst [v1, v2]) := upd_same
    refine hc _ (((e.trans e2).trans e3).trans e4) _ fun v H4 e5 z => ?_
    have ez : v = .int i := z
    subst ez
    rcases hi with rfl | rfl
    · exact ⟨p, [v1, v2], 0, v1, rfl, rfl, sq_of (e5 p _ hq), rfl, q _ _ (((e2.trans e3).trans e4).trans e5) (((z1.mono e3).mono e4).mono e5)⟩
    · exact ⟨p, [v1, v2], 1, v2, rfl, rfl, sq_of (e5 p _ hq), rfl, q _ _ (((e2.trans e3).trans e4).trans e5) ((z2.mono e4).mono e5)⟩⟩
/-- if c: x = e, values of any kind -/
theorem a_ifSetD {i : Nat} {v : V} (h : Et K t σ H b) (h1 : b = true → Er K te σ H d) (h2 : σ.set i (some v) = σ) (hv : Is K H e v) (k : ∀ w H1, Ex H H1 → Is K H1 (if b = true then d else e) w → tz D (σ.set i (some w)) H1) : tSeq (tIfS t (tAsg te (gName i)) tNext) tz D σ H :=
  a_when h (fun hb H1 e1 => a_asg1 (D := { D with nx := tz D }) ((h1 hb).mono e1) fun w H2 e2 z => k w H2 (e1.trans e2) (by rw [if_pos hb]; exact z)) (fun hb H1 e1 => by
    have g := k v H1 e1 (by rw [if_neg (by rw [hb]; exact Bool.false_ne_true)]; exact hv.mono e1)
    rw [h2] at g
    exact g)
end
theorem fnR {P : Program} {w : World} {K : PySem.W.Frag} {mg : Str → Option Value} {base : Heap} {x : Str} {st : Stmt} {f0 : Addr} {fd : FuncData} {N ps : List Str} {k : Nat} {T : Type} {pre : T → Prop} {args : T → List Dd} {ret : T → Dd}
    (F : Fun K x x st f0 fd) (Sc : FnScope N ps (defScope st)) (hl : ∀ a, (args a).length = ps.length)
    (hbody : ∀ (f : Addr) (cdv : Value) (A : Around) (outer : List Env) (s : Shared) (H : Hp) (a : T) (vs : List V) (Q : VK) (E : XK), Room k (A.deeper (envOfC x (defScope st) s.heap.objs.size f cdv)) → pre a → IsAll K H (args a) vs → (∀ v H', Ex H H' → Is K H' (ret a) v → Q v H') →
      ∃ t, PSs (cxOf CX0 P w K mg base N x (defScope st) f cdv A outer s H E).nox (defBody st) t ∧ t { nx := fun _ H' => Q .non H', rt := Q } (start N vs) H) :
    FnOk P w K mg base CX0 (k + 1) f0 fd ps (spR K pre args ret) :=
  F.ok Sc (fun vs H Q E hsp => by
    obtain ⟨a, _, hv, _⟩ := hsp
    rw [← hv.len, hl]) (fun cdv A outer s H vs Q E hr hsp => by
    obtain ⟨a, hp, hv, hk⟩ := hsp
    exact hbody f0 cdv A outer s H a vs Q E hr hp hv hk)
end Mi

set_option maxHeartbeats 2000000
namespace Mi
open PySem PySem.Spec PyProof.Rows L2 Evl
/-! ### lists and tuples whose items are told one by one -/
section
variable {K : PySem.W.Frag} {H H' : Hp}
theorem isE_all : ∀ {ds : List Dd} {vs : List V}, IsE K H ds vs ↔ IsAll K H ds vs
  | [], vs => ⟨fun h => by rw [show vs = [] from h]; exact .nil, fun h => by cases h; rfl⟩
  | d :: ds, vs => ⟨fun h => by
      obtain ⟨x, r, rfl, a, b⟩ := h
      exact .cons a (isE_all.mp b), fun h => by
      cases h with
      | cons a b => exact ⟨_, _, rfl, a, isE_all.mpr b⟩⟩
theorem isE_len {ds : List Dd} {vs : List V} (h : IsE K H ds vs) : ds.length = vs.length := (isE_all.mp h).len
theorem isE_app : ∀ {as bs : List Dd} {us vs : List V}, IsE K H as us → IsE K H bs vs → IsE K H (as ++ bs) (us ++ vs)
  | [], _, us, _, h, g => by rw [show us = [] from h]; exact g
  | d :: ds, _, us, _, h, g => by
    obtain ⟨x, r, rfl, a, b⟩ := h
    exact ⟨x, _, rfl, a, isE_app b g⟩
theorem isE_take : ∀ {ds : List Dd} {vs : List V} (n : Nat), IsE K H ds vs → IsE K H (ds.take n) (vs.take n)
  | _, vs, 0, _ => by
    rw [List.take_zero, List.take_zero]
    rfl
  | [], vs, n + 1, h => by rw [show vs = [] from h]; rfl
  | d :: ds, vs, n + 1, h => by
    obtain ⟨x, r, rfl, a, b⟩ := h
    exact ⟨x, _, rfl, a, isE_take n b⟩
theorem isE_drop : ∀ {ds : List Dd} {vs : List V} (n : Nat), IsE K H ds vs → IsE K H (ds.drop n) (vs.drop n)
  | _, vs, 0, h => h
  | [], vs, n + 1, h => by rw [show vs = [] from h]; rfl
  | d :: ds, vs, n + 1, h => by
    obtain ⟨x, r, rfl, a, b⟩ := h
    exact isE_drop n b
theorem isE_at {ds : List Dd} {vs : List V} {i : Nat} {d : Dd} (h : IsE K H ds vs) (hd : ds[i]? = some d) : ∃ v, vs[i]? = some v ∧ Is K H d v := by
  have hl := isE_len h
  have hi : i < vs.length := by
    have := (List.getElem?_eq_some_iff.mp hd).1
    omega
  obtain ⟨d', e1, e2⟩ := isAll_at (isE_all.mp h) (List.getElem?_eq_getElem hi)
  rw [hd] at e1
  exact ⟨_, List.getElem?_eq_getElem hi, Option.some.inj e1 ▸ e2⟩
theorem isE_v : ∀ {xs : List V} {vs : List V}, IsE K H (xs.map Dd.v) vs ↔ vs = xs
  | [], vs => Iff.rfl
  | x :: xs, vs => ⟨fun h => by
      obtain ⟨y, r, rfl, a, b⟩ := h
      rw [isE_v.mp b, show y = x from a], fun h => by
      rw [h]
      exact ⟨x, xs, rfl, rfl, isE_v.mpr rfl⟩⟩
theorem Is.N2L {ds : List Dd} {x : V} (h : Is K H (.N ds) x) : Is K H (.L ds) x := by
  obtain ⟨p, vs, e, q, r⟩ := h
  exact ⟨p, vs, e, sq_of q, r⟩
theorem Is.n2N {xs : List V} {x : V} (h : Is K H (.n xs) x) : Is K H (.N (xs.map Dd.v)) x := by
  obtain ⟨p, e, q⟩ := h
  exact ⟨p, xs, e, q, isE_v.mpr rfl⟩
theorem Is.N2n {xs : List V} {x : V} (h : Is K H (.N (xs.map Dd.v)) x) : Is K H (.n xs) x := by
  obtain ⟨p, vs, e, q, r⟩ := h
  rw [isE_v.mp r] at q
  exact ⟨p, e, q⟩
theorem Is.L2l {xs : List V} {x : V} (h : Is K H (.L (xs.map Dd.v)) x) : Is K H (.l xs) x := by
  obtain ⟨p, vs, e, q, r⟩ := h
  rw [isE_v.mp r] at q
  exact ⟨p, e, q⟩
theorem Is.l2L {xs : List V} {x : V} (h : Is K H (.l xs) x) : Is K H (.L (xs.map Dd.v)) x := by
  obtain ⟨p, e, q⟩ := h
  exact ⟨p, xs, e, q, isE_v.mpr rfl⟩
theorem Is.U2u {xs : List V} {x : V} (h : Is K H (.U (xs.map Dd.v)) x) : Is K H (.u xs) x := by
  obtain ⟨p, vs, e, q, r⟩ := h
  rw [isE_v.mp r] at q
  exact ⟨p, e, q⟩
theorem Is.u2U {xs : List V} {x : V} (h : Is K H (.u xs) x) : Is K H (.U (xs.map Dd.v)) x := by
  obtain ⟨p, e, q⟩ := h
  exact ⟨p, xs, e, q, isE_v.mpr rfl⟩
end
section
variable {K : PySem.W.Frag} {σ : L2.St} {H H0 H' : Hp} {te ta tb tc : TE} {t u : TT} {tr : TA} {a b : Bool} {d e d1 d2 : Dd} {D : Ends} {tu tw tz : TS} {x y : V} {ds es : List Dd}
theorem Er.as (h : Er K te σ H d) (f : ∀ H1 v, Is K H1 d v → Is K H1 e v) : Er K te σ H e := fun H1 x Q q => h H1 x Q fun v H2 e2 z => q v H2 e2 (f H2 v z)
theorem Er.N2L (h : Er K te σ H (.N ds)) : Er K te σ H (.L ds) := h.as fun _ _ z => z.N2L
theorem er_N (h : Era K tr σ H ds) (hl : ds.length ≤ 100000) : Er K (tLst tr) σ H (.N ds) := fun H1 e1 _ q =>
  h H1 e1 _ fun ws H2 e2 z => ⟨sz_of (by rw [← z.len]; exact hl), fun p hp => q _ _ (e2.trans (Ex.new hp)) ⟨p, ws, rfl, upd_same, isE_all.mpr (z.mono (Ex.new hp))⟩⟩
theorem er_U (h : Era K tr σ H ds) (hl : ds.length ≤ 100000) : Er K (tTup tr) σ H (.U ds) := fun H1 e1 _ q =>
  h H1 e1 _ fun ws H2 e2 z => ⟨sz_of (by rw [← z.len]; exact hl), fun p hp => q _ _ (e2.trans (Ex.new hp)) ⟨p, ws, rfl, st_of upd_same, isE_all.mpr (z.mono (Ex.new hp))⟩⟩
theorem ro_ixLd {i : Nat} (hd : ds[i]? = some d) : Ro K (rIxL K) (.L ds) (.i (i : Int)) d := by
  rintro _ _ H1 ⟨p, vs, rfl, hp, hE⟩ rfl Q q
  obtain ⟨v, hv, z⟩ := isE_at hE hd
  exact ⟨p, vs, (i : Int), v, rfl, rfl, hp, atI_nat hv, q _ H1 (Ex.refl H1) z⟩
theorem ro_ixNd {i : Nat} (hd : ds[i]? = some d) : Ro K (rIxL K) (.N ds) (.i (i : Int)) d := fun v w H1 a b => ro_ixLd hd v w H1 a.N2L b
theorem ro_ixUd {i : Nat} (hd : ds[i]? = some d) : Ro K (rIxT K) (.U ds) (.i (i : Int)) d := by
  rintro _ _ H1 ⟨p, vs, rfl, hp, hE⟩ rfl Q q
  obtain ⟨v, hv, z⟩ := isE_at hE hd
  exact ⟨p, vs, (i : Int), v, rfl, rfl, hp, atI_nat hv, q _ H1 (Ex.refl H1) z⟩
theorem rc_lenLd : Rc K (rLenS K) [.L ds] (.i (ds.length : Int)) := by
  rintro _ H1 (_ | ⟨⟨p, vs, rfl, hp, hE⟩, _ | _⟩) Q q
  exact ⟨p, vs, rfl, .inl hp, q _ H1 (Ex.refl H1) (by rw [isE_len hE]; rfl)⟩
theorem rc_lenNd : Rc K (rLenS K) [.N ds] (.i (ds.length : Int)) := fun vs H1 h Q q => by
  cases h with
  | cons a b => exact rc_lenLd _ H1 (.cons a.N2L b) Q q
theorem rc_lenUd : Rc K (rLenS K) [.U ds] (.i (ds.length : Int)) := by
  rintro _ H1 (_ | ⟨⟨p, vs, rfl, hp, hE⟩, _ | _⟩) Q q
  exact ⟨p, vs, rfl, .inr hp, q _ H1 (Ex.refl H1) (by rw [isE_len hE]; rfl)⟩
theorem ro_catd (h : ds.length + es.length ≤ 100000) : Ro K rCat (.N ds) (.N es) (.N (ds ++ es)) := by
  rintro _ _ H1 ⟨p, us, rfl, hp, h1⟩ ⟨p', vs, rfl, hp', h2⟩ Q q
  exact ⟨p, p', us, vs, rfl, rfl, hp, hp', sz_of (by rw [← isE_len h1, ← isE_len h2]; exact h), fun l hl => q _ _ (Ex.new hl) ⟨l, _, rfl, upd_same, isE_app (IsE.mono (Ex.new hl) h1) (IsE.mono (Ex.new hl) h2)⟩⟩
theorem rc_listLd : Rc K (rListS K) [.L ds] (.N ds) := by
  rintro _ H1 (_ | ⟨⟨p, vs, rfl, hp, hE⟩, _ | _⟩) Q q
  exact ⟨p, vs, rfl, .inl hp, fun l hl => q _ _ (Ex.new hl) ⟨l, vs, rfl, upd_same, IsE.mono (Ex.new hl) hE⟩⟩
theorem rc_listUd : Rc K (rListS K) [.U ds] (.N ds) := by
  rintro _ H1 (_ | ⟨⟨p, vs, rfl, hp, hE⟩, _ | _⟩) Q q
  exact ⟨p, vs, rfl, .inr hp, fun l hl => q _ _ (Ex.new hl) ⟨l, vs, rfl, upd_same, IsE.mono (Ex.new hl) hE⟩⟩
theorem rc_tupLd : Rc K (rTupS K) [.L ds] (.U ds) := by
  rintro _ H1 (_ | ⟨⟨p, vs, rfl, hp, hE⟩, _ | _⟩) Q q
  exact ⟨p, vs, rfl, .inl ⟨hp, fun l hl => q _ _ (Ex.new hl) ⟨l, vs, rfl, st_of upd_same, IsE.mono (Ex.new hl) hE⟩⟩⟩
theorem rc_tupNd : Rc K (rTupS K) [.N ds] (.U ds) := fun vs H1 h Q q => by
  cases h with
  | cons a b => exact rc_tupLd _ H1 (.cons a.N2L b) Q q
theorem rc_tupUd : Rc K (rTupS K) [.U ds] (.U ds) := by
  rintro _ H1 (_ | ⟨⟨p, vs, rfl, hp, hE⟩, _ | _⟩) Q q
  exact ⟨p, vs, rfl, .inr ⟨hp, q _ H1 (Ex.refl H1) ⟨p, vs, rfl, hp, hE⟩⟩⟩
theorem er_slLTo {n : Nat} (h : Er K te σ H (.L ds)) (h2 : Er K tb σ H (.i (n : Int))) : Er K (tSl (rSlL K) te tNoPart (tPart tb)) σ H (.N (ds.take n)) := fun H1 e1 _ q =>
  h H1 e1 _ fun v H2 e2 ⟨p, vs, ep, hp, hE⟩ => eo_non H2 (e1.trans e2) _ fun H3 e3 => eo_of h2 H3 ((e1.trans e2).trans e3) _ fun H4 e4 => by
    subst ep
    refine ⟨p, vs, rfl, ex_l (e3.trans e4) hp, fun l hl => q _ _ (((e2.trans e3).trans e4).trans (Ex.new hl)) ⟨l, _, rfl, upd_same, ?_⟩⟩
    have ec : cutV vs none (some (n : Int)) = vs.take n := by
      unfold cutV
      rw [HT.sIx_none, HT.sIx_nat]
      rw [List.drop_zero, Nat.sub_zero, List.take_eq_take_iff]
      omega
    rw [ec]
    exact isE_take n (IsE.mono ((e3.trans e4).trans (Ex.new hl)) hE)
theorem er_slLFrom {n : Nat} (h : Er K te σ H (.L ds)) (h2 : Er K tb σ H (.i (n : Int))) : Er K (tSl (rSlL K) te (tPart tb) tNoPart) σ H (.N (ds.drop n)) := fun H1 e1 _ q =>
  h H1 e1 _ fun v H2 e2 ⟨p, vs, ep, hp, hE⟩ => eo_of h2 H2 (e1.trans e2) _ fun H3 e3 => eo_non H3 ((e1.trans e2).trans e3) _ fun H4 e4 => by
    subst ep
    refine ⟨p, vs, rfl, ex_l (e3.trans e4) hp, fun l hl => q _ _ (((e2.trans e3).trans e4).trans (Ex.new hl)) ⟨l, _, rfl, upd_same, ?_⟩⟩
    rw [cutV_from]
    exact isE_drop n (IsE.mono ((e3.trans e4).trans (Ex.new hl)) hE)
end
end Mi

set_option maxHeartbeats 2000000
namespace Mi
open PySem PySem.Spec PyProof.Rows L2 Evl
/-! ### a view G of the heap A: what is not changed any more; lists that still grow stand outside of it -/
structure Step (G A G' A' : Hp) : Prop where
  g : Ex G G'
  v : Ex G' A'
  a : Ex A A'
  f : ∀ b, A b ≠ none → G b = none → G' b = none
theorem ex_out {G A : Hp} (e : Ex G A) {b : Addr} (h : A b = none) : G b = none := by
  cases q : G b with
  | none => rfl
  | some o => rw [e b o q] at h; cases h
theorem Step.refl {G A : Hp} (e : Ex G A) : Step G A G A := ⟨Ex.refl G, e, Ex.refl A, fun _ _ h => h⟩
theorem Step.trans {G A G1 A1 G2 A2 : Hp} (s : Step G A G1 A1) (t : Step G1 A1 G2 A2) : Step G A G2 A2 :=
  ⟨s.g.trans t.g, t.v, s.a.trans t.a, fun b h h2 => by
    refine t.f b ?_ (s.f b h h2)
    cases q : A b with
    | none => exact absurd q h
    | some o => rw [s.a b o q]; simp⟩
/-- only the heap went on -/
theorem Step.on {G A A' : Hp} (e : Ex G A) (a : Ex A A') : Step G A G A' := ⟨Ex.refl G, e.trans a, a, fun _ _ h => h⟩
theorem ex_both {G A : Hp} {p : Addr} {o : HO} (e : Ex G A) (hp : G p = none) : Ex (upd G p o) (upd A p o) := fun b x hb => by
  by_cases q : b = p
  · rw [q, upd_same] at hb ⊢
    exact hb
  · rw [upd_ne q] at hb ⊢
    exact e b x hb
/-- a new object, seen at once -/
theorem Step.new {G A : Hp} {p : Addr} {o : HO} (e : Ex G A) (hp : A p = none) : Step G A (upd G p o) (upd A p o) := by
  have hg := ex_out e hp
  refine ⟨Ex.new hg, ex_both e hg, Ex.new hp, fun b h h2 => ?_⟩
  have hb : b ≠ p := fun z => h (by rw [z]; exact hp)
  rw [upd_ne hb]
  exact h2
/-- a list of ours is done: from here on it is seen -/
theorem Step.seal {G0 A0 G A : Hp} {p : Addr} {o : HO} (s : Step G0 A0 G A) (h0 : A0 p = none) (hg : G p = none) (ha : A p = some o) : Step G0 A0 (upd G p o) A := by
  refine ⟨s.g.trans (Ex.new hg), fun b x hb => ?_, s.a, fun b h h2 => ?_⟩
  · by_cases q : b = p
    · rw [q, upd_same] at hb
      rw [q, ha]
      exact hb
    · rw [upd_ne q] at hb
      exact s.v b x hb
  · have hb : b ≠ p := fun z => h (by rw [z]; exact h0)
    rw [upd_ne hb]
    exact s.f b h h2
/-- a list of ours grows -/
theorem Step.grow {G0 A0 G A : Hp} {p : Addr} {o : HO} (s : Step G0 A0 G A) (h0 : A0 p = none) (hg : G p = none) : Step G0 A0 G (upd A p o) :=
  ⟨s.g, s.v.mut hg, s.a.mut h0, s.f⟩
def Ef (K : PySem.W.Frag) (te : TE) (σ : L2.St) (G : Hp) (d : Dd) : Prop := ∀ G1 A, Ex G G1 → Ex G1 A → ∀ Q : VK, (∀ v G' A', Step G1 A G' A' → Is K G' d v → Q v A') → te σ A Q
def Efa (K : PySem.W.Frag) (ta : TA) (σ : L2.St) (G : Hp) (ds : List Dd) : Prop := ∀ G1 A, Ex G G1 → Ex G1 A → ∀ Q : List V → Hp → Prop, (∀ vs G' A', Step G1 A G' A' → IsAll K G' ds vs → Q vs A') → ta σ A Q
def Rof (K : PySem.W.Frag) (r : R2) (d1 d2 d : Dd) : Prop := ∀ x y G A, Ex G A → Is K G d1 x → Is K G d2 y → ∀ Q : VK, (∀ v G' A', Step G A G' A' → Is K G' d v → Q v A') → r x y A Q
def Rcf (K : PySem.W.Frag) (r : List V → Hp → VK → Prop) (ds : List Dd) (d : Dd) : Prop := ∀ vs G A, Ex G A → IsAll K G ds vs → ∀ Q : VK, (∀ v G' A', Step G A G' A' → Is K G' d v → Q v A') → r vs A Q
section
variable {K : PySem.W.Frag} {σ : L2.St} {G G0 A A' : Hp} {te ta tb tc : TE} {t u : TT} {tr : TA} {d d1 d2 d' : Dd} {x y : V} {r : R2} {ds es : List Dd} {b : Bool}
theorem Ef.mono (e : Ex G0 G) (h : Ef K te σ G0 d) : Ef K te σ G d := fun G1 A e1 e2 Q q => h G1 A (e.trans e1) e2 Q q
theorem Ef.to (h : Ef K te σ G d) (e : d = d') : Ef K te σ G d' := e ▸ h
theorem Ef.as (h : Ef K te σ G d) (f : ∀ H v, Is K H d v → Is K H d' v) : Ef K te σ G d' := fun G1 A e1 e2 Q q => h G1 A e1 e2 Q fun v G' A' s z => q v G' A' s (f G' v z)
theorem Ef.er (h : Ef K te σ G d) : Er K te σ G d := fun H1 e Q q => h H1 H1 e (Ex.refl H1) Q fun v G' A' s z => q v A' s.a (z.mono s.v)
/-- a flat value is seen everywhere -/
theorem ef_flat (h : Er K te σ G (.v x)) : Ef K te σ G (.v x) := fun G1 A e1 e2 Q q => h A (e1.trans e2) Q fun v H2 e z => q v G1 H2 (.on e2 e) z
theorem ef_var {i : Nat} (h : σ[i]? = some (some x)) (hd : Is K G d x) : Ef K (tVar i) σ G d := fun G1 A e1 e2 Q q => ⟨x, h, q x G1 A (.refl e2) (hd.mono e1)⟩
theorem efa_nil : Efa K tNil σ G [] := fun G1 A e1 e2 Q q => q [] G1 A (.refl e2) .nil
theorem efa_cons (h : Ef K ta σ G d) (hr : Efa K tr σ G ds) : Efa K (tCons ta tr) σ G (d :: ds) := fun G1 A e1 e2 Q q =>
  h G1 A e1 e2 _ fun v G2 A2 s z => hr G2 A2 (e1.trans s.g) s.v _ fun vs G3 A3 s3 z3 => q _ G3 A3 (s.trans s3) (.cons (z.mono s3.g) z3)
theorem ef_op (ha : Ef K ta σ G d1) (hb : Ef K tb σ G d2) (hr : Rof K r d1 d2 d) : Ef K (tOp r ta tb) σ G d := fun G1 A e1 e2 Q q =>
  ha G1 A e1 e2 _ fun v1 G2 A2 s z => hb G2 A2 (e1.trans s.g) s.v _ fun v2 G3 A3 s3 z3 => hr v1 v2 G3 A3 s3.v (z.mono s3.g) z3 Q fun v G4 A4 s4 z4 => q v G4 A4 ((s.trans s3).trans s4) z4
theorem ef_cb {rc : List V → Hp → VK → Prop} (h : Efa K tr σ G ds) (hr : Rcf K rc ds d) : Ef K (tCB rc tr) σ G d := fun G1 A e1 e2 Q q =>
  h G1 A e1 e2 _ fun vs G2 A2 s z => hr vs G2 A2 s.v z Q fun v G3 A3 s3 z3 => q v G3 A3 (s.trans s3) z3
theorem ef_N (h : Efa K tr σ G ds) (hl : ds.length ≤ 100000) : Ef K (tLst tr) σ G (.N ds) := fun G1 A e1 e2 Q q =>
  h G1 A e1 e2 _ fun ws G2 A2 s z => ⟨sz_of (by rw [← z.len]; exact hl), fun p hp => q _ _ _ (s.trans (.new s.v hp)) ⟨p, ws, rfl, upd_same, isE_all.mpr (z.mono (Ex.new (ex_out s.v hp)))⟩⟩
theorem ef_U (h : Efa K tr σ G ds) (hl : ds.length ≤ 100000) : Ef K (tTup tr) σ G (.U ds) := fun G1 A e1 e2 Q q =>
  h G1 A e1 e2 _ fun ws G2 A2 s z => ⟨sz_of (by rw [← z.len]; exact hl), fun p hp => q _ _ _ (s.trans (.new s.v hp)) ⟨p, ws, rfl, st_of upd_same, isE_all.mpr (z.mono (Ex.new (ex_out s.v hp)))⟩⟩
theorem rf_ixL {i : Nat} (hd : ds[i]? = some d) : Rof K (rIxL K) (.L ds) (.i (i : Int)) d := by
  rintro _ _ G A e ⟨p, vs, rfl, hp, hE⟩ rfl Q q
  obtain ⟨v, hv, z⟩ := isE_at hE hd
  exact ⟨p, vs, (i : Int), v, rfl, rfl, ex_l e hp, atI_nat hv, q _ G A (.refl e) z⟩
theorem rf_ixN {i : Nat} (hd : ds[i]? = some d) : Rof K (rIxL K) (.N ds) (.i (i : Int)) d := fun v w G A e a b => rf_ixL hd v w G A e a.N2L b
theorem rf_ixU {i : Nat} (hd : ds[i]? = some d) : Rof K (rIxT K) (.U ds) (.i (i : Int)) d := by
  rintro _ _ G A e ⟨p, vs, rfl, hp, hE⟩ rfl Q q
  obtain ⟨v, hv, z⟩ := isE_at hE hd
  exact ⟨p, vs, (i : Int), v, rfl, rfl, ex_t e hp, atI_nat hv, q _ G A (.refl e) z⟩
theorem rf_cat (h : ds.length + es.length ≤ 100000) : Rof K rCat (.N ds) (.N es) (.N (ds ++ es)) := by
  rintro _ _ G A e ⟨p, us, rfl, hp, h1⟩ ⟨p', vs, rfl, hp', h2⟩ Q q
  exact ⟨p, p', us, vs, rfl, rfl, e p _ hp, e p' _ hp', sz_of (by rw [← isE_len h1, ← isE_len h2]; exact h), fun l hl => q _ _ _ (.new e hl) ⟨l, _, rfl, upd_same, isE_app (IsE.mono (Ex.new (ex_out e hl)) h1) (IsE.mono (Ex.new (ex_out e hl)) h2)⟩⟩
theorem rf_listL : Rcf K (rListS K) [.L ds] (.N ds) := by
  rintro _ G A e (_ | ⟨⟨p, vs, rfl, hp, hE⟩, _ | _⟩) Q q
  exact ⟨p, vs, rfl, .inl (ex_l e hp), fun l hl => q _ _ _ (.new e hl) ⟨l, vs, rfl, upd_same, IsE.mono (Ex.new (ex_out e hl)) hE⟩⟩
theorem rf_listU : Rcf K (rListS K) [.U ds] (.N ds) := by
  rintro _ G A e (_ | ⟨⟨p, vs, rfl, hp, hE⟩, _ | _⟩) Q q
  exact ⟨p, vs, rfl, .inr (ex_t e hp), fun l hl => q _ _ _ (.new e hl) ⟨l, vs, rfl, upd_same, IsE.mono (Ex.new (ex_out e hl)) hE⟩⟩
theorem rf_tupL : Rcf K (rTupS K) [.L ds] (.U ds) := by
  rintro _ G A e (_ | ⟨⟨p, vs, rfl, hp, hE⟩, _ | _⟩) Q q
  exact ⟨p, vs, rfl, .inl ⟨ex_l e hp, fun l hl => q _ _ _ (.new e hl) ⟨l, vs, rfl, st_of upd_same, IsE.mono (Ex.new (ex_out e hl)) hE⟩⟩⟩
theorem rf_tupN : Rcf K (rTupS K) [.N ds] (.U ds) := fun vs G A e h Q q => by
  cases h with
  | cons a b => exact rf_tupL _ G A e (.cons a.N2L b) Q q
theorem rf_tupU : Rcf K (rTupS K) [.U ds] (.U ds) := by
  rintro _ G A e (_ | ⟨⟨p, vs, rfl, hp, hE⟩, _ | _⟩) Q q
  exact ⟨p, vs, rfl, .inr ⟨ex_t e hp, q _ G A (.refl e) ⟨p, vs, rfl, hp, hE⟩⟩⟩
/-- calls of the text's own defs -/
def spF (K : PySem.W.Frag) {T : Type} (pre : T → Prop) (args : T → List Dd) (ret : T → Dd) : Sp := fun vs A Q _ => ∃ a : T, pre a ∧ ∃ G, Ex G A ∧ IsAll K G (args a) vs ∧ ∀ v G' A', Step G A G' A' → Is K G' (ret a) v → Q v A'
theorem ef_call {T : Type} {pre : T → Prop} {args : T → List Dd} {ret : T → Dd} {E : XK} (a : T) (h : Efa K tr σ G ds) (hd : ds = args a) (hp : pre a) : Ef K (tCall (spF K pre args ret) [] E tr) σ G (ret a) := fun G1 A e1 e2 Q q =>
  h G1 A e1 e2 _ fun vs G2 A2 s z => by
    rw [List.append_nil]
    exact ⟨a, hp, G2, s.v, hd ▸ z, fun v G3 A3 s3 z3 => q v G3 A3 (s.trans s3) z3⟩
/-- what is told of views holds of heaps -/
theorem spF_of {T : Type} {pre : T → Prop} {args : T → List Dd} {ret : T → Dd} : ∀ vs H Q E, spR K pre args ret vs H Q E → spF K pre args ret vs H Q E := by
  rintro vs H Q E ⟨a, hp, hv, hk⟩
  exact ⟨a, hp, H, Ex.refl H, hv, fun v G' A' s z => hk v A' s.a (z.mono s.v)⟩
theorem ef_if {b : Bool} (h : ∀ A, Ex G A → Et K t σ A b) (h1 : b = true → Ef K ta σ G d) (h2 : b = false → Ef K tb σ G d) : Ef K (tIf t ta tb) σ G d := fun G1 A e1 e2 Q q =>
  h A (e1.trans e2) A (Ex.refl A) _ fun A2 ea => by
    cases b with
    | true => exact h1 rfl G1 A2 e1 (e2.trans ea) Q fun v G' A' s z => q v G' A' ((Step.on e2 ea).trans s) z
    | false => exact h2 rfl G1 A2 e1 (e2.trans ea) Q fun v G' A' s z => q v G' A' ((Step.on e2 ea).trans s) z
end
end Mi

set_option maxHeartbeats 2000000
namespace Mi
open PySem PySem.Spec PyProof.Rows L2 Evl
/-! ### what is walked, seen from a view -/
def Wk (K : PySem.W.Frag) (J : It) (G2 : Hp) (ds : List Dd) : Prop := ∀ i G' A', Ex G2 G' → Ex G' A' → (∀ d, ds[i]? = some d → J.go i A' ∧ ∀ v A'', J.yld i A' v A'' → ∃ G'', Step G' A' G'' A'' ∧ Is K G'' d v) ∧ (i = ds.length → J.stop i A')
def Itf (K : PySem.W.Frag) (wi : TI) (σ : L2.St) (G : Hp) (ds : List Dd) : Prop := ∀ G1 A, Ex G G1 → Ex G1 A → ∀ R, (∀ J G2 A2, Step G1 A G2 A2 → Wk K J G2 ds → R J A2) → wi σ A R
section
variable {K : PySem.W.Frag} {σ : L2.St} {G G0 A A' : Hp} {te tl tb : TE} {t : TT} {ta : TA} {wi : TI} {g : TG} {d e d1 d2 : Dd} {D : Ends} {tu tz : TS} {v x : V} {ds es : List Dd} {b : Bool}
theorem if_list (h : Ef K tl σ G (.L ds)) : Itf K (iList K tl) σ G ds := fun G1 A e1 e2 R r =>
  h G1 A e1 e2 _ fun v G2 A2 s ⟨p, vs, ep, hp, hE⟩ => by
    subst ep
    refine ⟨p, rfl, ⟨vs, ex_l s.v hp⟩, r _ G2 A2 s fun i G' A' e3 e4 => ⟨fun d hd => ?_, fun hi => ⟨vs, ex_l (e3.trans e4) hp, by rw [← isE_len hE]; omega⟩⟩⟩
    obtain ⟨y, hy, z⟩ := isE_at hE hd
    refine ⟨⟨vs, y, ex_l (e3.trans e4) hp, hy⟩, fun v A'' hyl => ?_⟩
    obtain ⟨rfl, hall⟩ := hyl
    have ev := (hall vs (ex_l (e3.trans e4) hp)).symm.trans hy
    rw [Option.some.inj ev]
    exact ⟨G', .refl e4, z.mono e3⟩
theorem if_tup (h : Ef K tl σ G (.U ds)) : Itf K (iTup K tl) σ G ds := fun G1 A e1 e2 R r =>
  h G1 A e1 e2 _ fun v G2 A2 s ⟨p, vs, ep, hp, hE⟩ => by
    subst ep
    refine ⟨p, rfl, ⟨vs, ex_t s.v hp⟩, r _ G2 A2 s fun i G' A' e3 e4 => ⟨fun d hd => ?_, fun hi => ⟨vs, ex_t (e3.trans e4) hp, by rw [← isE_len hE]; omega⟩⟩⟩
    obtain ⟨y, hy, z⟩ := isE_at hE hd
    refine ⟨⟨vs, y, ex_t (e3.trans e4) hp, hy⟩, fun v A'' hyl => ?_⟩
    obtain ⟨rfl, hall⟩ := hyl
    have ev := (hall vs (ex_t (e3.trans e4) hp)).symm.trans hy
    rw [Option.some.inj ev]
    exact ⟨G', .refl e4, z.mono e3⟩
theorem if_range {n : Nat} (h : Era K ta σ G [.i (n : Int)]) (hn : n ≤ 100000) : Itf K (iRng1 ta) σ G ((List.range n).map fun i : Nat => Dd.i (i : Int)) := fun G1 A e1 e2 R r =>
  h A (e1.trans e2) _ fun vs A2 ea z => by
    rcases z with _ | ⟨rfl, _ | _⟩
    refine ⟨(n : Int), rfl, by omega, by omega, r _ G1 A2 (.on e2 ea) fun i G' A' e3 e4 => ⟨fun d hd => ?_, fun hi => ?_⟩⟩
    · have hi : i < n := by
        have := (List.getElem?_eq_some_iff.mp hd).1
        simpa using this
      rw [List.getElem?_map, List.getElem?_range hi] at hd
      have ed := Option.some.inj hd
      refine ⟨show i < (n : Int).toNat by omega, fun v A'' hyl => ?_⟩
      obtain ⟨rfl, rfl⟩ := hyl
      refine ⟨G', .refl e4, ?_⟩
      rw [← ed]
      show V.int (0 + (i : Int)) = V.int (i : Int)
      rw [Int.zero_add]
    · show (n : Int).toNat ≤ i
      rw [List.length_map, List.length_range] at hi
      omega
theorem if_text {z : List Nat} (h : Er K tl σ G (.s (S z))) : Itf K (iStr tl) σ G (z.map fun c => Dd.s (S [c])) := fun G1 A e1 e2 R r =>
  h A (e1.trans e2) _ fun v A2 ea ev => by
    refine ⟨S z, ev, r _ G1 A2 (.on e2 ea) fun i G' A' e3 e4 => ⟨fun d hd => ?_, fun hi => ?_⟩⟩
    · rw [List.getElem?_map] at hd
      cases hc : z[i]? with
      | none => rw [hc] at hd; cases hd
      | some c =>
        rw [hc] at hd
        have ed := Option.some.inj hd
        have hi := (List.getElem?_eq_some_iff.mp hc).1
        refine ⟨show i < (S z).cps.size by rw [S_size]; exact hi, fun v A'' hyl => ?_⟩
        obtain ⟨rfl, c', hc', rfl⟩ := hyl
        rw [S_at, hc] at hc'
        rw [← ed, ← Option.some.inj hc']
        exact ⟨G', .refl e4, rfl⟩
    · show (S z).cps.size ≤ i
      rw [S_size]
      rw [List.length_map] at hi
      omega
theorem if_pairs {ps : List (V × V)} {wi : TI} (h : ∀ A, Ex G A → ∀ R, (∀ A2, Ex A A2 → R (ItP ps) A2) → wi σ A R) : Itf K wi σ G (ps.map fun p => Dd.U [.v p.1, .v p.2]) := fun G1 A e1 e2 R r =>
  h A (e1.trans e2) R fun A2 ea => r _ G1 A2 (.on e2 ea) fun i G' A' e3 e4 => ⟨fun d hd => by
    rw [List.getElem?_map] at hd
    cases hc : ps[i]? with
    | none => rw [hc] at hd; cases hd
    | some p =>
      rw [hc] at hd
      have ed := Option.some.inj hd
      refine ⟨(List.getElem?_eq_some_iff.mp hc).1, fun v A'' hyl => ?_⟩
      obtain ⟨T, x, y, rfl, hT, rfl, hxy⟩ := hyl
      rw [hc] at hxy
      have ep := Option.some.inj hxy
      rw [← ed, ep]
      exact ⟨_, .new e4 hT, T, [x, y], rfl, st_of upd_same, x, [y], rfl, rfl, y, [], rfl, rfl, rfl⟩, fun hi => by
    rw [List.length_map] at hi
    exact hi⟩
theorem if_zipS {a b : List Nat} (h : Era K ta σ G [.s (S a), .s (S b)]) : Itf K (iZipS ta) σ G ((a.zip b).map fun p => Dd.U [.s (S [p.1]), .s (S [p.2])]) := by
  have e : (a.zip b).map (fun p => Dd.U [.s (S [p.1]), .s (S [p.2])]) = (zipS (S a) (S b)).map fun p => Dd.U [.v p.1, .v p.2] := by
    unfold zipS
    rw [List.map_map]
    rfl
  rw [e]
  exact if_pairs fun A e1 R r => h A e1 _ fun vs A2 ea z => by
    rcases z with _ | ⟨rfl, _ | ⟨rfl, _ | _⟩⟩
    exact ⟨S a, S b, rfl, r A2 ea⟩
/-- a loop over what is walked -/
theorem f_for (h : Itf K wi σ G ds) (hA : Ex G A) (Pv : Nat → L2.St → Hp → Hp → Prop) (h0 : ∀ G1 A1, Step G A G1 A1 → Pv 0 σ G1 A1)
    (hs : ∀ G1, Ex G G1 → ∀ i d v σ' G' A' G2 A2, ds[i]? = some d → Pv i σ' G' A' → Ex G1 G' → Ex G' A' → Step G' A' G2 A2 → Is K G2 d v → g v σ' A2 fun σ2 A3 => tu { D with nx := fun σ3 A4 => ∃ G4, Pv (i + 1) σ3 G4 A4 ∧ Ex G1 G4 ∧ Ex G4 A4, ct := fun σ3 A4 => ∃ G4, Pv (i + 1) σ3 G4 A4 ∧ Ex G1 G4 ∧ Ex G4 A4, bk := D.nx } σ2 A3)
    (hd : ∀ σ' G' A', Ex G G' → Ex G' A' → Pv ds.length σ' G' A' → D.nx σ' A') : tFor wi g tu D σ A :=
  h G A (Ex.refl G) hA _ fun J G1 A1 s hw => by
    refine ⟨fun i m σ' A' => m = ds.length - i ∧ i ≤ ds.length ∧ ∃ G', Pv i σ' G' A' ∧ Ex G1 G' ∧ Ex G' A', ⟨_, rfl, Nat.zero_le _, G1, h0 G1 A1 s, Ex.refl G1, s.v⟩, ?_⟩
    rintro i m σ' A' ⟨rfl, hi, G', p, eg, ea⟩
    by_cases hlt : i < ds.length
    · have hd' : ds[i]? = some ds[i] := List.getElem?_eq_getElem hlt
      obtain ⟨go, yl⟩ := (hw i G' A' eg ea).1 _ hd'
      refine .inr ⟨go, fun σ3 A4 => ∃ G4, Pv (i + 1) σ3 G4 A4 ∧ Ex G1 G4 ∧ Ex G4 A4, fun σ3 A4 q => ⟨ds.length - (i + 1), by omega, rfl, hlt, q⟩, fun v A'' y => ?_⟩
      obtain ⟨G2, s2, z⟩ := yl v A'' y
      exact hs G1 s.g i _ v σ' G' A' G2 A'' hd' p eg ea s2 z
    · have e : i = ds.length := by omega
      subst e
      exact .inl ⟨(hw _ G' A' eg ea).2 rfl, hd σ' G' A' (s.g.trans eg) ea p⟩
theorem b_for (h : Itf K wi σ G ds) (hA : Ex G A) (Pv : Nat → L2.St → Hp → Hp → Prop) (h0 : ∀ G1 A1, Step G A G1 A1 → Pv 0 σ G1 A1)
    (hs : ∀ G1, Ex G G1 → ∀ i d v σ' G' A' G2 A2, ds[i]? = some d → Pv i σ' G' A' → Ex G1 G' → Ex G' A' → Step G' A' G2 A2 → Is K G2 d v → g v σ' A2 fun σ2 A3 => tu { D with nx := fun σ3 A4 => ∃ G4, Pv (i + 1) σ3 G4 A4 ∧ Ex G1 G4 ∧ Ex G4 A4, ct := fun σ3 A4 => ∃ G4, Pv (i + 1) σ3 G4 A4 ∧ Ex G1 G4 ∧ Ex G4 A4, bk := tz D } σ2 A3)
    (hd : ∀ σ' G' A', Ex G G' → Ex G' A' → Pv ds.length σ' G' A' → tz D σ' A') : tSeq (tFor wi g tu) tz D σ A := f_for (D := { D with nx := tz D }) h hA Pv h0 hs hd
/-- two names for a pair -/
theorem g_two {j1 j2 : Nat} {Q : L2.St → Hp → Prop} (hA : Ex G A) (h : Is K G (.U [d1, d2]) v) (k : ∀ v1 v2, Is K G d1 v1 → Is K G d2 v2 → Q ((σ.set j1 (some v1)).set j2 (some v2)) A) : gTup K 2 (gCons (gName j1) (gCons (gName j2) gNil)) v σ A Q := by
  obtain ⟨T, vs, rfl, hT, x, r, rfl, hx, y, r2, rfl, hy, hr⟩ := h
  have er : r2 = [] := hr
  subst er
  exact ⟨T, [x, y], rfl, ex_t hA hT, rfl, x, [y], rfl, y, [], rfl, rfl, k x y hx hy⟩
/-- a comprehension over what is walked -/
theorem ef_lc {α : Type} {its : List α} {inj : α → Dd} {vs : List Nat} (f : α → Bool) (gd : α → Dd) (h : Itf K wi σ G (its.map inj)) (hz : its.length ≤ 50000)
    (hs : ∀ (i : Nat) x v G' A', Ex G G' → Ex G' A' → its[i]? = some x → Is K G' (inj x) v → ∃ σ2, (∀ Q : L2.St → Hp → Prop, Q σ2 A' → g v (wipe σ vs) A' Q) ∧ wipe σ2 vs = wipe σ vs ∧ Et K t σ2 A' (f x) ∧ (f x = true → Ef K te σ2 G' (gd x))) :
    Ef K (tLc wi g t te vs) σ G (.N ((its.filter f).map gd)) := fun G0 A0 e0 ea0 Q q =>
  h G0 A0 e0 ea0 _ fun J G1 A1 s1 hw => fun Dl hD => by
    have gD := ex_out s1.v hD
    refine ⟨fun i m A' => m = its.length - i ∧ i ≤ its.length ∧ ∃ G', Step G1 A1 G' A' ∧ G' Dl = none ∧ ∃ us, A' Dl = some (.lst us) ∧ IsE K G' (((its.take i).filter f).map gd) us, ⟨_, rfl, Nat.zero_le _, G1, .on s1.v (Ex.new hD), gD, [], upd_same, rfl⟩, ?_⟩
    rintro i m A' ⟨rfl, hi, G', st, hg, us, hu, hE⟩
    by_cases hlt : i < its.length
    · have hx : its[i]? = some its[i] := List.getElem?_eq_getElem hlt
      have hd' : (its.map inj)[i]? = some (inj its[i]) := by rw [List.getElem?_map, hx]; rfl
      obtain ⟨go, yl⟩ := (hw i G' A' st.g st.v).1 _ hd'
      refine .inr ⟨go, fun A3 => ∃ G3, Step G1 A1 G3 A3 ∧ G3 Dl = none ∧ ∃ us, A3 Dl = some (.lst us) ∧ IsE K G3 (((its.take (i + 1)).filter f).map gd) us, fun A3 p3 => ⟨its.length - (i + 1), by omega, rfl, hlt, p3⟩, fun v A'' y => ?_⟩
      obtain ⟨G2, s2, z⟩ := yl v A'' y
      have uN : A' Dl ≠ none := by rw [hu]; simp
      have g2 := s2.f Dl uN hg
      have u2 := s2.a Dl _ hu
      obtain ⟨σ2, hgt, hwp, htt, hte⟩ := hs i _ v G2 A'' ((e0.trans s1.g).trans (st.g.trans s2.g)) s2.v hx z
      have hl : us.length ≤ i := by
        rw [← isE_len hE, List.length_map]
        refine Nat.le_trans (List.length_filter_le _ _) ?_
        rw [List.length_take]
        exact Nat.min_le_left _ _
      refine hgt _ ⟨hwp, htt A'' (Ex.refl _) _ fun A3 e3 => ?_⟩
      have hn : (its.take (i + 1)).filter f = (its.take i).filter f ++ if f its[i] = true then [its[i]] else [] := by
        rw [List.take_add_one, hx]
        simp only [Option.toList, List.filter_append]
        congr 1
        by_cases hf : f its[i] = true
        · simp [hf]
        · simp [hf]
      have s3 := (st.trans s2).trans (Step.on s2.v e3)
      have u3 := e3 Dl _ u2
      by_cases hf : f its[i] = true
      · rw [if_pos hf]
        refine hte hf G2 A3 (Ex.refl G2) s3.v _ fun w G4 A4 s4 zw => ⟨us, s4.a Dl _ u3, sz_lt (by omega), ?_⟩
        have g4 := s4.f Dl (by rw [u3]; simp) g2
        refine ⟨G4, (s3.trans s4).grow hD g4, g4, us ++ [w], upd_same, ?_⟩
        rw [hn, if_pos hf, List.map_append]
        exact isE_app (IsE.mono (s2.g.trans s4.g) hE) ⟨w, [], rfl, zw, rfl⟩
      · rw [if_neg hf]
        refine ⟨G2, s3, g2, us, u3, ?_⟩
        rw [hn, if_neg hf, List.append_nil]
        exact IsE.mono s2.g hE
    · have e : i = its.length := by omega
      subst e
      refine .inl ⟨(hw _ G' A' st.g st.v).2 (by rw [List.length_map]), q _ (upd G' Dl (.lst us)) A' (s1.trans (st.seal hD hg hu)) ⟨Dl, us, rfl, upd_same, ?_⟩⟩
      rw [List.take_length] at hE
      exact IsE.mono (Ex.new hg) hE
/-! ### statements -/
theorem s_set {i : Nat} (h : Ef K te σ G d) (hA : Ex G A) (k : ∀ v G' A', Step G A G' A' → Is K G' d v → tz D (σ.set i (some v)) A') : tSeq (tAsg te (gName i)) tz D σ A := h G A (Ex.refl G) hA _ fun v G' A' s z => k v G' A' s z
theorem s_set1 {i : Nat} (h : Ef K te σ G d) (hA : Ex G A) (k : ∀ v G' A', Step G A G' A' → Is K G' d v → D.nx (σ.set i (some v)) A') : tAsg te (gName i) D σ A := h G A (Ex.refl G) hA _ fun v G' A' s z => k v G' A' s z
theorem s_ret {d' : Dd} (h : Ef K te σ G d) (hA : Ex G A) (hd : d = d') (k : ∀ v G' A', Step G A G' A' → Is K G' d' v → D.rt v A') : tRet te D σ A := h G A (Ex.refl G) hA _ fun v G' A' s z => k v G' A' s (hd ▸ z)
theorem s_new {i : Nat} (hA : Ex G A) (k : ∀ p A', A p = none → G p = none → Step G A G A' → A' p = some (.lst []) → tz D (σ.set i (some (.ref p))) A') : tSeq (tAsg (tLst tNil) (gName i)) tz D σ A :=
  ⟨Nat.zero_le _, fun p hp => k p _ hp (ex_out hA hp) (.on hA (Ex.new hp)) upd_same⟩
theorem s_app {l : Addr} {us : List V} (hl : A l = some (.lst us)) (hg : G l = none) (hA : Ex G A) (ha : Er K tl σ A (.v (.ref l))) (h : Ef K te σ G d) (hz : us.length < 100000) (k : ∀ w G' A', Step G A G' A' → Is K G' d w → G' l = none → A' l = some (.lst us) → D.nx σ (upd A' l (.lst (us ++ [w])))) :
    tDrop (tBM K "list" rAppend tl (tCons te tNil)) D σ A := ha A (Ex.refl A) _ fun v A1 e1 z1 => by
  have ez : v = .ref l := z1
  subst ez
  have h1 := e1 l _ hl
  exact ⟨Or.inl ⟨rfl, us, sq_of h1⟩, h G A1 (Ex.refl G) (hA.trans e1) _ fun w G2 A2 s2 z2 => ⟨l, us, w, rfl, rfl, s2.a l _ h1, sz_lt hz, k w G2 A2 ((Step.on hA e1).trans s2) z2 (s2.f l (by rw [h1]; simp) hg) (s2.a l _ h1)⟩⟩
end
theorem At.hasF {P : Program} {w : World} {K : PySem.W.Frag} {mg : Str → Option Value} {base : Heap} {x : Str} {st : Stmt} {N ps : List Str} {k : Nat} {T : Type} {pre : T → Prop} {args : T → List Dd} {ret : T → Dd}
    (h : At K mg x st ps) (Sc : FnScope N ps (defScope st)) (hl : ∀ a, (args a).length = ps.length)
    (hbody : ∀ (f : Addr) (cdv : Value) (Ar : Around) (outer : List Env) (s : Shared) (G A : Hp) (a : T) (vs : List V) (Q : VK) (E : XK), Room k (Ar.deeper (envOfC x (defScope st) s.heap.objs.size f cdv)) → pre a → Ex G A → IsAll K G (args a) vs →
      (∀ v G' A', Step G A G' A' → Is K G' (ret a) v → Q v A') →
      ∃ t, PSs (cxOf CX0 P w K mg base N x (defScope st) f cdv Ar outer s A E).nox (defBody st) t ∧ t { nx := fun _ A' => Q .non A', rt := Q } (start N vs) A) :
    Has P w K mg base (k + 1) x ps (spF K pre args ret) := by
  obtain ⟨f, fd, hm, F, b0, b1, b2⟩ := h.ex
  refine ⟨f, fd, hm, F.kp, F.ok Sc (fun vs H Q E hsp => ?_) (fun cdv Ar outer s A vs Q E hr hsp => ?_), b0, b1, b2⟩
  · obtain ⟨a, _, G, _, hv, _⟩ := hsp
    rw [← hv.len, hl]
  · obtain ⟨a, hp, G, hA, hv, hk⟩ := hsp
    exact hbody f cdv Ar outer s G A a vs Q E hr hp hA hv hk
end Mi

set_option maxHeartbeats 2000000
namespace Mi
open PySem PySem.Spec PyProof.Rows L2 Evl
def rMin2' : List V → Hp → VK → Prop := fun xs H Q => ∃ i j, xs = [.int i, .int j] ∧ Q (.int (if j < i then j else i)) H
theorem cr_min2' {X : Cx} (hc : X.calm = true := by rfl) : CallR X (.builtin "min") rMin2' := call_min2 hc
theorem cr_sum_k {X : Cx} {K : PySem.W.Frag} (h : X.K = K := by rfl) (hc : X.calm = true := by rfl) : CallR X (.builtin "sum") (rSum K) := h ▸ cr_sum hc
theorem cr_all_k {X : Cx} {K : PySem.W.Frag} (h : X.K = K := by rfl) (hc : X.calm = true := by rfl) : CallR X (.builtin "all") (rAll K) := h ▸ cr_all hc
section
variable {K : PySem.W.Frag} {σ : L2.St} {G A H H' : Hp} {te ta tb tc : TE} {t u : TT} {tr : TA} {d d1 d2 d3 : Dd} {x y : V} {r r' : R2} {b1 b2 : Bool}
theorem rc_min2 {i j : Int} : Rc K rMin2' [.i i, .i j] (.i (if j < i then j else i)) := by
  rintro _ H1 (_ | ⟨rfl, _ | ⟨rfl, _ | _⟩⟩) Q q
  exact ⟨i, j, rfl, q _ H1 (Ex.refl H1) rfl⟩
theorem rc_sumI {ns : List Int} : Rc K (rSum K) [.l (vis ns)] (.i ns.sum) := by
  rintro _ H1 (_ | ⟨⟨p, rfl, hp⟩, _ | _⟩) Q q
  exact ⟨p, ns, rfl, hp, q _ H1 (Ex.refl H1) rfl⟩
theorem rc_allB {bs : List Bool} : Rc K (rAll K) [.l (bs.map V.bl)] (.b (bs.all id)) := by
  rintro _ H1 (_ | ⟨⟨p, rfl, hp⟩, _ | _⟩) Q q
  exact ⟨p, bs, rfl, hp, q _ H1 (Ex.refl H1) rfl⟩
theorem rc_allBN {bs : List Bool} : Rc K (rAll K) [.n (bs.map V.bl)] (.b (bs.all id)) := fun vs H1 h Q q => by
  cases h with
  | cons a b => exact rc_allB _ H1 (.cons a.n2l b) Q q
/-- a op b op' c -/
theorem er_chain (ha : Er K ta σ H d1) (hb : Er K tb σ H d2) (hr : Ro K r d1 d2 (.b b1)) (hc : b1 = true → Er K tc σ H d3) (hr' : b1 = true → Ro K r' d2 d3 (.b b2)) : Er K (tChain r r' ta tb tc) σ H (.b (b1 && b2)) := fun H1 e Q q =>
  ha H1 e _ fun v1 H2 e2 z1 => hb H2 (e.trans e2) _ fun v2 H3 e3 z2 => hr v1 v2 H3 (z1.mono e3) z2 _ fun w H4 e4 zw => ⟨b1, zw, by
    cases b1 with
    | true =>
      rw [if_pos rfl]
      exact hc rfl H4 (((e.trans e2).trans e3).trans e4) _ fun v3 H5 e5 z3 => hr' rfl v2 v3 H5 ((z2.mono e4).mono e5) z3 Q fun w H6 e6 z6 => q w H6 ((((e2.trans e3).trans e4).trans e5).trans e6) z6
    | false =>
      rw [if_neg Bool.false_ne_true]
      exact q _ H4 ((e2.trans e3).trans e4) rfl⟩
end
end Mi

set_option maxHeartbeats 2000000
namespace Mi
open PySem PySem.Spec PyProof.Rows L2 Evl
theorem cutS_mid (l : List Nat) (n m : Nat) (hm : m ≤ l.length) : cutS (S l) (some (n : Int)) (some (m : Int)) = S ((l.drop n).take (m - n)) := by
  unfold cutS
  rw [HT.sIx_nat, HT.sIx_nat, S_len, S_list]
  show S _ = S _
  congr 1
  have e2 : min m l.length = m := by omega
  by_cases h : n ≤ l.length
  · have e1 : min n l.length = n := by omega
    rw [e1, e2]
  · have e1 : min n l.length = l.length := by omega
    rw [e1, e2, List.drop_length, List.drop_of_length_le (by omega : l.length ≤ n), List.take_nil, List.take_nil]
section
variable {K : PySem.W.Frag} {σ : L2.St} {H : Hp} {te ta tb : TE} {t : TT}
theorem er_slMidS {l : List Nat} {n m : Nat} (h : Er K te σ H (.s (S l))) (hz : l.length ≤ 100000) (h1 : Er K ta σ H (.i (n : Int))) (h2 : Er K tb σ H (.i (m : Int))) (hm : m ≤ l.length) : Er K (tSl rSlS te (tPart ta) (tPart tb)) σ H (.s (S ((l.drop n).take (m - n)))) := by
  rw [← cutS_mid _ _ _ hm]
  exact er_slS h (by rw [S_len]; exact hz) (eo_of h1) (eo_of h2)
theorem er_dash {n : Nat} {te tn : TE} (h1 : Er K te σ H (.s (S [45]))) (h2 : Er K tn σ H (.i (n : Int))) (hn : n ≤ 1000) : Er K (tOp rMulS te tn) σ H (.s (S (List.replicate n 45))) := Er.to (er_op h1 h2 (ro_mulC hn (by decide))) (by rw [List.flatten_replicate_singleton])
/-- a text's sign at a place that is known to be whole and not below zero -/
theorem er_sign {l : List Nat} {n : Nat} (h : Er K te σ H (.s (S l))) (h2 : Er K ta σ H (.i (n : Int))) (hn : n < l.length) (hz : l.length ≤ 100000) : Er K (tOp rIxS te ta) σ H (.s (S [l.getD n 0])) := Er.to (er_op h h2 (ro_ixC (by omega) (by omega) hz)) (by rw [Int.toNat_natCast])
theorem er_num {ns : List Int} {n : Nat} (h : Er K te σ H (.l (vis ns))) (h2 : Er K ta σ H (.i (n : Int))) (hn : n < ns.length) : Er K (tOp (rIxL K) te ta) σ H (.i (ns.getD n 0)) := Er.to (er_op h h2 (ro_ixI (by omega) (by omega))) (by rw [Int.toNat_natCast])
theorem er_numN {ns : List Int} {n : Nat} (h : Er K te σ H (.n (vis ns))) (h2 : Er K ta σ H (.i (n : Int))) (hn : n < ns.length) : Er K (tOp (rIxL K) te ta) σ H (.i (ns.getD n 0)) := Er.to (er_op h h2 (ro_ixIN (by omega) (by omega))) (by rw [Int.toNat_natCast])
theorem er_numL {xs : List Int} {i : Nat} (h : Er K te σ H (.n (vis xs))) (h2 : Er K ta σ H (.i (i : Int))) (hn : i < xs.length) : Er K (tOp (rIxL K) te ta) σ H (.i (xs.getD i 0)) := er_numN h h2 hn
end
end Mi

set_option maxHeartbeats 2000000
namespace Mi
open PySem PySem.Spec PyProof.Rows L2 Evl
section
variable {K : PySem.W.Frag} {σ : L2.St} {G A H : Hp} {te to ti tl ta tb : TE} {t : TT} {tu : TS} {d e : Dd} {D : Ends} {ds es : List Dd} {b : Bool}
theorem s_setitem {l : Addr} {us : List V} {j : Nat} (hl : A l = some (.lst us)) (hg : G l = none) (hA : Ex G A) (h : Ef K te σ G d) (ha : Er K to σ A (.v (.ref l))) (hi : Er K ti σ A (.i (j : Int))) (hj : j < us.length)
    (k : ∀ w G' A', Step G A G' A' → Is K G' d w → G' l = none → A' l = some (.lst us) → D.nx σ (upd A' l (.lst (us.set j w)))) : tAsg te (gSub to ti rSetL) D σ A :=
  h G A (Ex.refl G) hA _ fun w G1 A1 s1 z1 => ha A1 s1.a _ fun v A2 e2 zv => hi A2 (s1.a.trans e2) _ fun i A3 e3 zi => by
    have ev : v = .ref l := zv
    have ei : i = .int (j : Int) := zi
    subst ev
    subst ei
    have l3 := e3 l _ (e2 l _ (s1.a l _ hl))
    refine ⟨l, us, (j : Int), j, rfl, rfl, l3, ?_, k w G1 A3 ((s1.trans (.on s1.v e2)).trans (.on (s1.v.trans e2) e3)) z1 (s1.f l (by rw [hl]; simp) hg) l3⟩
    unfold ixN
    simp
    omega
/-- an if without else: what holds behind it is said once -/
theorem a_whenR {tz : TS} (Pm : L2.St → Hp → Prop) (h : Et K t σ H b) (hr : ∀ σ' H', Pm σ' H' → tz D σ' H') (h1 : (∀ σ' H', Pm σ' H' → tz D σ' H') → b = true → ∀ H1, Ex H H1 → tu { D with nx := tz D } σ H1) (h2 : b = false → ∀ H1, Ex H H1 → Pm σ H1) : tSeq (tIfS t tu tNext) tz D σ H :=
  a_when h (h1 hr) fun hb H1 e1 => hr σ H1 (h2 hb H1 e1)
/-- o[j] = [.., ..], flat items -/
theorem s_setflat {l : Addr} {us xs : List V} {j : Nat} {tr : TA} (hl : A l = some (.lst us)) (hg : G l = none) (hA : Ex G A) (h : Era K tr σ A (xs.map Dd.v)) (hz : xs.length ≤ 100000) (ha : Er K to σ A (.v (.ref l))) (hi : Er K ti σ A (.i (j : Int))) (hj : j < us.length)
    (k : ∀ p G' A', Step G A G' A' → G' p = some (.lst xs) → G' l = none → A' l = some (.lst us) → D.nx σ (upd A' l (.lst (us.set j (.ref p))))) : tAsg (tLst tr) (gSub to ti rSetL) D σ A :=
  h A (Ex.refl A) _ fun ws A1 e1 z => by
    have ew := flat_all z
    subst ew
    refine ⟨sz_of hz, fun p hp => ?_⟩
    have s1 : Step G A (upd G p (.lst ws)) (upd A1 p (.lst ws)) := (Step.on hA e1).trans (.new (hA.trans e1) hp)
    refine ha _ s1.a _ fun v A2 e2 zv => hi A2 (s1.a.trans e2) _ fun i A3 e3 zi => ?_
    have ev : v = .ref l := zv
    have ei : i = .int (j : Int) := zi
    subst ev
    subst ei
    have l3 := e3 l _ (e2 l _ (s1.a l _ hl))
    exact ⟨l, us, (j : Int), j, rfl, rfl, l3, ixN_nat hj, k p _ A3 ((s1.trans (.on s1.v e2)).trans (.on (s1.v.trans e2) e3)) upd_same (s1.f l (by rw [hl]; simp) hg) l3⟩
/-- items that are read as lists where they stand as lists of ours -/
theorem isE_map {α : Type} {f g : α → Dd} (h : ∀ x H v, Is K H (f x) v → Is K H (g x) v) : ∀ {l : List α} {vs : List V}, IsE K H (l.map f) vs → IsE K H (l.map g) vs
  | [], _, h1 => h1
  | x :: r, _, h1 => by
    obtain ⟨y, s, rfl, a, b⟩ := h1
    exact ⟨y, s, rfl, h x H y a, isE_map h b⟩
theorem isE_set : ∀ {ds : List Dd} {vs : List V} {i : Nat} {d : Dd} {w : V}, IsE K H ds vs → Is K H d w → IsE K H (ds.set i d) (vs.set i w)
  | [], _, i, d, w, h, _ => by rw [show _ = [] from h]; rfl
  | x :: r, _, 0, d, w, h, z => by
    obtain ⟨y, s, rfl, a, b⟩ := h
    exact ⟨w, s, rfl, z, b⟩
  | x :: r, _, i + 1, d, w, h, z => by
    obtain ⟨y, s, rfl, a, b⟩ := h
    exact ⟨y, s.set i w, rfl, a, isE_set (i := i) b z⟩
/-- a place of a list of any items -/
theorem er_place {i : Nat} (h : Er K tl σ H (.L ds)) (h2 : Er K ta σ H (.i (i : Int))) (hd : ds[i]? = some d) : Er K (tOp (rIxL K) tl ta) σ H d := er_op h h2 (ro_ixLd hd)
end
/-- a stock's pairs as lists -/
def stD (st : List (List Nat × List Nat)) : List Dd := st.map fun p => Dd.L [.s (S p.1), .s (S p.2)]
theorem stD_at {st : List (List Nat × List Nat)} {i : Nat} {p : List Nat × List Nat} (h : st[i]? = some p) : (stD st)[i]? = some (Dd.L [.s (S p.1), .s (S p.2)]) := by
  rw [stD, List.getElem?_map, h]
  rfl
theorem stD_of {st : List (List Nat × List Nat)} {i : Nat} {d : Dd} (h : (stD st)[i]? = some d) : ∃ p, st[i]? = some p ∧ d = Dd.L [.s (S p.1), .s (S p.2)] := by
  rw [stD, List.getElem?_map] at h
  cases q : st[i]? with
  | none => rw [q] at h; cases h
  | some p => rw [q] at h; exact ⟨p, rfl, (Option.some.inj h).symm⟩
theorem stD_len {st : List (List Nat × List Nat)} : (stD st).length = st.length := by simp [stD]
end Mi

set_option maxHeartbeats 2000000
namespace Mi
open PySem PySem.Spec PyProof.Rows L2 Evl
theorem cr_isiT_k {X : Cx} {K : PySem.W.Frag} (h : X.K = K := by rfl) : CallR X (.builtin "isinstance") (rIsiT K) := h ▸ call_isiT
section
variable {K : PySem.W.Frag} {σ : L2.St} {G A H : Hp} {te tl : TE} {d : Dd} {ds : List Dd} {x : V}
/-- isinstance(x, (T1, T2)) -/
theorem er_isiT {n1 n2 : String} {b : Bool} (t : Value) (h : Er K te σ H d) (ht : ∀ H1 v, Is K H1 d v → TyX K H1 v t) (hk : PySem.W.kitAny K t [.type n1, .type n2] = some b) : Er K (tCB (rIsiT K) (tCons te (tCons (tTup (tCons (tC (.ty n1)) (tCons (tC (.ty n2)) tNil))) tNil))) σ H (.b b) := fun H1 e Q q =>
  h H1 e _ fun v H2 e2 z => ⟨sz_of (by simp), fun p hp => ⟨v, p, [.ty n1, .ty n2], t, [.type n1, .type n2], b, rfl, upd_same, .cons (.ty n1) (.cons (.ty n2) .nil), ht _ _ (z.mono (Ex.new hp)), hk, q _ _ (e2.trans (Ex.new hp)) rfl⟩⟩
/-- what a variable holds is walked, a list or a tuple -/
def iSeqV (K : PySem.W.Frag) (i : Nat) : TI := fun σ H R => ∃ a, σ[i]? = some (some (.ref a)) ∧ (((∃ xs, SqL K H a xs) ∧ R (Itl K a) H) ∨ ((∃ xs, SqT K H a xs) ∧ R (Itt K a) H))
theorem pi_seqV {X : Cx} {tg l : Expr} {i : Nat} (hl : PE X l (tVar i)) (h : X.K = K := by rfl) : PI X tg l (iSeqV K i) := by
  subst h
  refine ⟨fun pins s σ H R I h => ?_⟩
  obtain ⟨a, e, h | h⟩ := h
  · exact (pi_list hl).run pins s σ H R I ⟨.ref a, e, a, rfl, h.1, h.2⟩
  · exact (pi_tup hl).run pins s σ H R I ⟨.ref a, e, a, rfl, h.1, h.2⟩
theorem if_seqL {i : Nat} (hx : σ[i]? = some (some x)) (h : Is K G (.L ds) x) : Itf K (iSeqV K i) σ G ds := fun G1 A e1 e2 R r => by
  have q := if_list (ef_var hx h) G1 A e1 e2 R r
  obtain ⟨y, hy, a, rfl, q1, q2⟩ := q
  exact ⟨a, hy, .inl ⟨q1, q2⟩⟩
theorem if_seqU {i : Nat} (hx : σ[i]? = some (some x)) (h : Is K G (.U ds) x) : Itf K (iSeqV K i) σ G ds := fun G1 A e1 e2 R r => by
  have q := if_tup (ef_var hx h) G1 A e1 e2 R r
  obtain ⟨y, hy, a, rfl, q1, q2⟩ := q
  exact ⟨a, hy, .inr ⟨q1, q2⟩⟩
theorem ty_Ld {v : V} (h : Is K H (.L ds) v) : TyX K H v (.type "list") := by
  obtain ⟨p, vs, rfl, hp, _⟩ := h
  exact ty_l ⟨p, rfl, hp⟩
theorem ty_Ud {v : V} (h : Is K H (.U ds) v) : TyX K H v (.type "tuple") := by
  obtain ⟨p, vs, rfl, hp, _⟩ := h
  exact ty_u ⟨p, rfl, hp⟩
end
/-! ### texts, whole numbers, lists and tuples of such, nested -/
mutual
def tupD : Dd → Dd
  | .L ds => .U (tupL ds)
  | .U ds => .U (tupL ds)
  | d => d
def tupL : List Dd → List Dd
  | [] => []
  | d :: r => tupD d :: tupL r
end
mutual
def depD : Dd → Nat
  | .L ds => depL ds + 1
  | .U ds => depL ds + 1
  | _ => 0
def depL : List Dd → Nat
  | [] => 0
  | d :: r => max (depD d) (depL r)
end
mutual
def okD : Dd → Prop
  | .v (.str _) => True
  | .v (.int _) => True
  | .L ds => okL ds ∧ ds.length ≤ 1000
  | .U ds => okL ds ∧ ds.length ≤ 1000
  | _ => False
def okL : List Dd → Prop
  | [] => True
  | d :: r => okD d ∧ okL r
end
theorem tupL_map : ∀ ds : List Dd, tupL ds = ds.map tupD
  | [] => rfl
  | d :: r => by rw [tupL, tupL_map r]; rfl
theorem okL_at : ∀ {ds : List Dd} {i : Nat} {d : Dd}, okL ds → ds[i]? = some d → okD d
  | [], _, _, _, h => by simp at h
  | x :: r, 0, d, h, e => Option.some.inj e ▸ h.1
  | x :: r, i + 1, d, h, e => okL_at (i := i) h.2 e
theorem depL_at : ∀ {ds : List Dd} {i : Nat} {d : Dd}, ds[i]? = some d → depD d ≤ depL ds
  | [], _, _, h => by simp at h
  | x :: r, 0, d, e => by
    rw [← Option.some.inj e]
    exact Nat.le_max_left _ _
  | x :: r, i + 1, d, e => Nat.le_trans (depL_at (i := i) e) (Nat.le_max_right _ _)
/-- a def of which nothing is asked -/
theorem At.none {P : Program} {w : World} {K : PySem.W.Frag} {mg : Str → Option Value} {base : Heap} {x : Str} {st : Stmt} {ps : List Str} {T : Type} {pre : T → Prop} {args : T → List Dd} {ret : T → Dd} (h : At K mg x st ps) (hn : ∀ a, ¬ pre a) : Has P w K mg base 0 x ps (spF K pre args ret) := by
  obtain ⟨f, fd, hm, F, b0, b1, b2⟩ := h.ex
  refine ⟨f, fd, hm, F.kp, ⟨fun vs H Q E hsp => ?_, fun A outer s H args us vs Q E hr he hb hv hsp => ?_⟩, b0, b1, b2⟩
  · obtain ⟨a, hp, _⟩ := hsp
    exact absurd hp (hn a)
  · obtain ⟨a, hp, _⟩ := hsp
    exact absurd hp (hn a)
end Mi

set_option maxHeartbeats 2000000
namespace Mi
open PySem PySem.Spec PyProof.Rows L2 Evl
/-! ### great numbers -/
def CDivWN (i j : Int) : Prop := j ≠ 0 ∧ j.natAbs.log2 < 9000
theorem op_fdivWN {X : Cx} : OpR X (binaryOp .FloorDiv) (rI CDivWN fun i j => .int (i.fdiv j)) := opI fun _ _ _ _ _ _ _ hc q => floordiv_int hc.1 q (.inl (PyProof.noPylong_of_log2 hc.2))
def Bd (n : Nat) (x : Int) : Prop := x.natAbs < 2 ^ n
theorem Bd.mono {n m : Nat} {x : Int} (h : Bd n x) (e : n ≤ m) : Bd m x := Nat.lt_of_lt_of_le h (Nat.pow_le_pow_right (by decide) e)
theorem Bd.mul {n m : Nat} {x y : Int} (h : Bd n x) (g : Bd m y) : Bd (n + m) (x * y) := wide_lt h g
theorem Bd.add {n : Nat} {x y : Int} (h : Bd n x) (g : Bd n y) : Bd (n + 1) (x + y) := by
  unfold Bd at *
  rw [Nat.pow_succ]
  omega
theorem Bd.sub {n : Nat} {x y : Int} (h : Bd n x) (g : Bd n y) : Bd (n + 1) (x - y) := by
  unfold Bd at *
  rw [Nat.pow_succ]
  omega
theorem Bd.neg {n : Nat} {x : Int} (h : Bd n x) : Bd n (-x) := by
  unfold Bd at *
  omega
theorem Bd.le {n : Nat} {x y : Int} (h : Bd n x) (g : y.natAbs ≤ x.natAbs) : Bd n y := Nat.lt_of_le_of_lt g h
section
variable {K : PySem.W.Frag} {σ : L2.St} {H H0 H' : Hp} {te tl ta tb tc : TE} {t u : TT} {tr : TA} {d d0 d1 d2 : Dd} {D : Ends} {tu tw tz : TS} {x y : V} {ds es : List Dd} {b : Bool}
theorem ro_mulW {i j : Int} {n m : Nat} (h : Bd n i) (g : Bd m j) (h0 : 0 < n) (h1 : 0 < m) (e : n + m ≤ 1000000) : Ro K (rI CMulW fun i j => .int (i * j)) (.i i) (.i j) (.i (i * j)) := ro_I (wide_mul h g h0 h1 e)
theorem ro_divWN {i j : Int} {n : Nat} (h0 : j ≠ 0) (h : Bd n j) (hn : 0 < n) (h9 : n ≤ 9000) : Ro K (rI CDivWN fun i j => .int (i.fdiv j)) (.i i) (.i j) (.i (i.fdiv j)) := ro_I ⟨h0, Nat.lt_of_lt_of_le (PySem.Flt.log2_lt_of hn h) h9⟩
theorem ro_divW {i j : Int} (h : 0 < j) (h2 : j < 4611686018427387904) : Ro K (rI CDivW fun i j => .int (i / j)) (.i i) (.i j) (.i (i / j)) := ro_I (wide_div (b := 62) h (by omega) (by decide) (by decide))
theorem er_un {r : V → Hp → VK → Prop} (h : Er K te σ H d1) (hr : ∀ x H1, Is K H1 d1 x → ∀ Q : VK, (∀ v H2, Ex H1 H2 → Is K H2 d v → Q v H2) → r x H1 Q) : Er K (tUn r te) σ H d := fun H1 e Q q =>
  h H1 e _ fun v H2 e2 z => hr v H2 z Q fun w H3 e3 z3 => q w H3 (e2.trans e3) z3
theorem er_neg {i : Int} (h : Er K te σ H (.i i)) : Er K (tUn (rU fun i => .int (-i)) te) σ H (.i (-i)) := er_un h fun x H1 z Q q => ⟨i, z, q _ H1 (Ex.refl H1) rfl⟩
theorem ro_1012 : Ro K (rI CPow fun i j => .int (i ^ j.toNat)) (.i 10) (.i 12) (.i 1000000000000) := ro_I (K := K) (C := CPow) (g := fun i j => .int (i ^ j.toNat)) (i := 10) (j := 12) ⟨by decide, by decide, by decide⟩
theorem ro_1015 : Ro K (rI CPow fun i j => .int (i ^ j.toNat)) (.i 10) (.i 15) (.i 1000000000000000) := ro_I (K := K) (C := CPow) (g := fun i j => .int (i ^ j.toNat)) (i := 10) (j := 15) ⟨by decide, by decide, by decide⟩
/-! ### is, for truth values; gcd; abs -/
theorem ro_notBl {a b : Bool} : Ro K rNotB (.b a) (.b b) (.b (!decide (a = b))) := by
  rintro _ _ H1 rfl rfl Q q
  exact ⟨a, b, rfl, rfl, q _ H1 (Ex.refl H1) rfl⟩
theorem ro_isBl {a b : Bool} : Ro K rIsB (.b a) (.b b) (.b (decide (a = b))) := by
  rintro _ _ H1 rfl rfl Q q
  exact ⟨a, b, rfl, rfl, q _ H1 (Ex.refl H1) rfl⟩
def gcdI (a b : Int) : Int := ((Nat.gcd a.natAbs b.natAbs : Nat) : Int)
theorem rc_gcd {a b : Int} : Rc K rGcd [.i a, .i b] (.i (gcdI a b)) := by
  rintro _ H1 (_ | ⟨rfl, _ | ⟨rfl, _ | _⟩⟩) Q q
  exact ⟨a, b, rfl, q _ H1 (Ex.refl H1) rfl⟩
def rAbs : List V → Hp → VK → Prop := fun xs H Q => ∃ i, xs = [.int i] ∧ Q (.int (if i < 0 then -i else i)) H
theorem cr_abs {X : Cx} : CallR X (.builtin "abs") rAbs := call_abs
theorem rc_abs {i : Int} : Rc K rAbs [.i i] (.i ((i.natAbs : Nat) : Int)) := by
  rintro _ H1 (_ | ⟨rfl, _ | _⟩) Q q
  exact ⟨i, rfl, q _ H1 (Ex.refl H1) (by
    show V.int _ = V.int _
    congr 1
    split <;> omega)⟩
/-! ### lists or tuples -/
inductive Sq : Dd → List Dd → Prop where
  | N (ds : List Dd) : Sq (.N ds) ds
  | U (ds : List Dd) : Sq (.U ds) ds
def rIxE (K : PySem.W.Frag) : R2 := fun x y H Q => rIxL K x y H Q ∨ rIxT K x y H Q
theorem ix_seq_k {X : Cx} (h : X.K = K := by rfl) : IxR X (rIxE K) := h ▸ IxR.or ix_list ix_tup
theorem ro_ixE {i : Nat} (h : Sq d0 ds) (hd : ds[i]? = some d) : Ro K (rIxE K) d0 (.i (i : Int)) d := by
  cases h with
  | N => exact fun v w H1 a b Q q => .inl (ro_ixNd hd v w H1 a b Q q)
  | U => exact fun v w H1 a b Q q => .inr (ro_ixUd hd v w H1 a b Q q)
theorem rc_lenE (h : Sq d0 ds) : Rc K (rLenS K) [d0] (.i (ds.length : Int)) := by
  cases h with
  | N => exact rc_lenNd
  | U => exact rc_lenUd
def gSeq (K : PySem.W.Frag) (n : Nat) (t : TGs) : TG := fun v σ H Q => gTup K n t v σ H Q ∨ gLst K n t v σ H Q
theorem pg_seq {X : Cx} {pos : Pos} {es : List Expr} {k : Nat} {t : TGs} {n : Nat} (hc : X.calm = true) (h : PGs X es t) (hK : X.K = K := by rfl)
    (hn : (assignEach es X.env).length = n := by rfl) (hst : (assignEach es X.env).findIdx? (·.1) = none := by rfl) : PG X (.Tuple es k pos) (gSeq K n t) := by
  subst hK
  refine ⟨fun pins s σ H v u Q I r hw => ?_⟩
  rcases hw with hw | hw
  · exact (pg_tup hc h hn hst).run pins s σ H v u Q I r hw
  · exact (pg_lst hc h hn hst).run pins s σ H v u Q I r hw
theorem g_pair {j1 j2 : Nat} {v : V} {Q : L2.St → Hp → Prop} (h : Sq d0 [d1, d2]) (hv : Is K H d0 v) (k : ∀ v1 v2, Is K H d1 v1 → Is K H d2 v2 → Q ((σ.set j1 (some v1)).set j2 (some v2)) H) : gSeq K 2 (gCons (gName j1) (gCons (gName j2) gNil)) v σ H Q := by
  cases h with
  | N =>
    obtain ⟨T, vs, rfl, hT, x, r, rfl, hx, y, r2, rfl, hy, hr⟩ := hv
    have er : r2 = [] := hr
    subst er
    exact .inr ⟨T, [x, y], rfl, sq_of hT, rfl, x, [y], rfl, y, [], rfl, rfl, k x y hx hy⟩
  | U =>
    obtain ⟨T, vs, rfl, hT, x, r, rfl, hx, y, r2, rfl, hy, hr⟩ := hv
    have er : r2 = [] := hr
    subst er
    exact .inl ⟨T, [x, y], rfl, hT, rfl, x, [y], rfl, y, [], rfl, rfl, k x y hx hy⟩
/-- (x, y) = a pair, both flat -/
theorem a_pair {i j : Nat} {xa xb : V} (h : Er K te σ H d0) (hs : Sq d0 [.v xa, .v xb]) (k : ∀ H1, Ex H H1 → tz D ((σ.set i (some xa)).set j (some xb)) H1) : tSeq (tAsg te (gSeq K 2 (gCons (gName i) (gCons (gName j) gNil)))) tz D σ H :=
  h H (Ex.refl H) _ fun v H1 e z => g_pair hs z fun v1 v2 h1 h2 => by
    have e1 : v1 = xa := h1
    have e2 : v2 = xb := h2
    subst e1
    subst e2
    exact k H1 e
/-- both of any kind -/
theorem a_pairD {i j : Nat} (h : Er K te σ H d0) (hs : Sq d0 [d1, d2]) (k : ∀ v1 v2 H1, Ex H H1 → Is K H1 d1 v1 → Is K H1 d2 v2 → tz D ((σ.set i (some v1)).set j (some v2)) H1) : tSeq (tAsg te (gSeq K 2 (gCons (gName i) (gCons (gName j) gNil)))) tz D σ H :=
  h H (Ex.refl H) _ fun v H1 e z => g_pair hs z fun v1 v2 h1 h2 => k v1 v2 H1 e h1 h2
/-! ### dicts that nobody reads -/
theorem er_d0 : Er K tDNewK σ H .D := fun H1 _ _ q p hp => q _ _ (Ex.new hp) ⟨p, [], rfl, upd_same⟩
theorem er_d2 {a b c e : Int} : Er K (tDisp [(tC (.int a), tC (.int b)), (tC (.int c), tC (.int e))]) σ H .D := fun H1 _ _ q p hp =>
  ⟨upd_same, [(.inl a, .int b), (.inl c, .int e)], rfl, by simp, q _ _ (Ex.mut (Ex.new hp) hp) ⟨p, _, rfl, upd_same⟩⟩
/-! ### a loop over a list of ours, its items of any kind -/
theorem b_forN {j : Nat} (h : Er K tl σ H (.N ds)) (Pv : Nat → L2.St → Hp → Prop) (h0 : ∀ H1, Ex H H1 → Pv 0 σ H1)
    (hs : ∀ H1, Ex H H1 → ∀ i d v σ' H', ds[i]? = some d → (∀ H2, Ex H1 H2 → Is K H2 d v) → Pv i σ' H' → Ex H1 H' → tu { D with nx := fun σ2 H2 => Pv (i + 1) σ2 H2 ∧ Ex H1 H2, ct := fun σ2 H2 => Pv (i + 1) σ2 H2 ∧ Ex H1 H2, bk := tz D } (σ'.set j (some v)) H')
    (hd : ∀ σ' H', Ex H H' → Pv ds.length σ' H' → tz D σ' H') : tSeq (tFor (iList K tl) (gName j) tu) tz D σ H :=
  h H (Ex.refl H) _ fun v H1 e1 ⟨p, vs, ep, hp, hE⟩ => by
    subst ep
    have z := isE_all.mp hE
    have len := z.len
    refine ⟨p, rfl, ⟨vs, sq_of hp⟩, ?_⟩
    refine for_list (D := { D with nx := tz D }) (xs := vs) (fun i σ' H' => Pv i σ' H' ∧ Ex H1 H') ⟨h0 _ e1, Ex.refl _⟩ (fun i σ' H' _ q => sq_of (q.2 p _ hp)) (fun i v σ' H' hv q => ?_) fun σ' H' q => hd σ' H' (e1.trans q.2) (by rw [len]; exact q.1)
    obtain ⟨d, hd', hi⟩ := isAll_at z hv
    exact hs _ e1 i d v σ' H' hd' (fun H2 e3 => hi.mono e3) q.1 q.2
theorem b_forR {ta : TA} {j : Nat} {n : Nat} (h : Era K ta σ H [.v (.int (n : Int))]) (hn : n ≤ 2000000) (Pv : Nat → L2.St → Hp → Prop) (h0 : ∀ H1, Ex H H1 → Pv 0 σ H1)
    (hs : ∀ (i : Nat) σ' H', i < n → Pv i σ' H' → tu { D with nx := Pv (i + 1), ct := Pv (i + 1), bk := tz D } (σ'.set j (some (.int (i : Int)))) H') (hd : ∀ σ' H', Pv n σ' H' → tz D σ' H') : tSeq (tFor (iRng1 ta) (gName j) tu) tz D σ H :=
  h H (Ex.refl H) _ fun vs H1 e z => by
    rcases z with _ | ⟨rfl, _ | _⟩
    exact ⟨(n : Int), rfl, by omega, by omega, for_range (D := { D with nx := tz D }) (lo := 0) (n := (n : Int).toNat) Pv (h0 H1 e) (fun i σ' H' hi p => by
      have e0 : (0 : Int) + (i : Int) = (i : Int) := Int.zero_add _
      show tu { D with nx := Pv (i + 1), ct := Pv (i + 1), bk := tz D } (σ'.set j (some (.int ((0 : Int) + (i : Int))))) H'
      rw [e0]
      exact hs i σ' H' (by omega) p) (by rw [Int.toNat_natCast]; exact hd)⟩
/-! ### deep == of pairs of whole numbers -/
theorem ro_eqUU {a b c e : Int} : Ro K (rEqD K) (.U [.i a, .i b]) (.U [.i c, .i e]) (.b (decide ([a, b] = [c, e]))) := fun x y H1 h1 h2 => ro_eqU (ns := [a, b]) (ms := [c, e]) x y H1 (Is.U2u (xs := vis [a, b]) h1) (Is.U2u (xs := vis [c, e]) h2)
theorem ro_eqNN {a b c e : Int} : Ro K (rEqD K) (.N [.i a, .i b]) (.N [.i c, .i e]) (.b (decide ([a, b] = [c, e]))) := fun x y H1 h1 h2 => ro_eqL (ns := [a, b]) (ms := [c, e]) x y H1 (Is.N2n (xs := vis [a, b]) h1).n2l (Is.N2n (xs := vis [c, e]) h2).n2l
theorem dp_pair {a b : Int} {H1 : Hp} {x : V} (h : Is K H1 (.N [.i a, .i b]) x) : Dp K H1 x (.list [.int a, .int b]) := by
  obtain ⟨p, rfl, hp⟩ := (Is.N2n (xs := vis [a, b]) h).n2l
  exact .lst hp (.cons (.int a) (.cons (.int b) .nil))
theorem dp_pairs {a b c e : Int} {H1 : Hp} {x : V} (h : Is K H1 (.N [.N [.i a, .i b], .N [.i c, .i e]]) x) : Dp K H1 x (.list [.list [.int a, .int b], .list [.int c, .int e]]) := by
  obtain ⟨p, vs, rfl, hp, x, r, rfl, hx, y, r2, rfl, hy, hr⟩ := h
  have er : r2 = [] := hr
  subst er
  exact .lst (sq_of hp) (.cons (dp_pair hx) (.cons (dp_pair hy) .nil))
theorem ro_eqPP {a b c e : Int} : Ro K (rEqD K) (.N [.N [.i a, .i b], .N [.i c, .i e]]) (.N [.N [.i a, .i b], .N [.i c, .i e]]) (.b true) := by
  intro x y H1 h1 h2 Q q
  refine ⟨_, _, dp_pairs h1, dp_pairs h2, ?_, ?_, q _ H1 (Ex.refl H1) ?_⟩
  · simp [SeqAt.shaped, PyData.canLay0, PyData.depth, PyData.canLayAll0, PyData.depthAll]
  · simp [SeqAt.shaped, PyData.canLay0, PyData.depth, PyData.canLayAll0, PyData.depthAll]
  · show V.bl _ = V.bl true
    simp [PyData.eqv, PyData.eqvAll]
end
/-! ### kinds of values -/
def tyN : Dd → String
  | .v (.int _) => "int"
  | .v (.bl _) => "bool"
  | .v .non => "NoneType"
  | .v (.str _) => "str"
  | .N _ => "list"
  | .U _ => "tuple"
  | .D => "dict"
  | _ => "?"
theorem ty_of {K : PySem.W.Frag} {H : Hp} : ∀ {d : Dd} {v : V}, tyN d ≠ "?" → Is K H d v → TyX K H v (.type (tyN d))
  | .v (.int i), _, _, h => by rw [show _ = V.int i from h]; exact .base (.int i)
  | .v (.bl b), _, _, h => by rw [show _ = V.bl b from h]; exact .base (.bl b)
  | .v .non, _, _, h => by rw [show _ = V.non from h]; exact .base .non
  | .v (.str x), _, _, h => by rw [show _ = V.str x from h]; exact .base (.str x)
  | .N ds, _, _, h => ty_Ld h.N2L
  | .U ds, _, _, h => ty_Ud h
  | .D, _, _, h => by obtain ⟨p, kvs, rfl, e⟩ := h; exact .base (.dK e)
  | .v (.byt _), _, n, _ => absurd rfl n
  | .v (.flt _), _, n, _ => absurd rfl n
  | .v (.ref _), _, n, _ => absurd rfl n
  | .v (.ty _), _, n, _ => absurd rfl n
  | .P _, _, n, _ => absurd rfl n
  | .l _, _, n, _ => absurd rfl n
  | .n _, _, n, _ => absurd rfl n
  | .u _, _, n, _ => absurd rfl n
  | .L _, _, n, _ => absurd rfl n
theorem tyN_cases : ∀ {d : Dd}, tyN d ≠ "?" → tyN d = "int" ∨ tyN d = "bool" ∨ tyN d = "NoneType" ∨ tyN d = "str" ∨ tyN d = "list" ∨ tyN d = "tuple" ∨ tyN d = "dict"
  | .v (.int i), _ => .inl rfl
  | .v (.bl b), _ => .inr (.inl rfl)
  | .v .non, _ => .inr (.inr (.inl rfl))
  | .v (.str x), _ => .inr (.inr (.inr (.inl rfl)))
  | .N ds, _ => .inr (.inr (.inr (.inr (.inl rfl))))
  | .U ds, _ => .inr (.inr (.inr (.inr (.inr (.inl rfl)))))
  | .D, _ => .inr (.inr (.inr (.inr (.inr (.inr rfl)))))
  | .v (.byt _), n => absurd rfl n
  | .v (.flt _), n => absurd rfl n
  | .v (.ref _), n => absurd rfl n
  | .v (.ty _), n => absurd rfl n
  | .P _, n => absurd rfl n
  | .l _, n => absurd rfl n
  | .n _, n => absurd rfl n
  | .u _, n => absurd rfl n
  | .L _, n => absurd rfl n
theorem kit2' {K : PySem.W.Frag} {n m1 m2 : String} {b1 b2 : Bool} (h1 : kitB n m1 = some b1) (h2 : kitB n m2 = some b2) : PySem.W.kitAny K (.type n) [.type m1, .type m2] = some (b1 || b2) := by
  have e1 : PySem.W.kitOne K (.type n) (.type m1) = some b1 := kit_ty h1
  have e2 : PySem.W.kitOne K (.type n) (.type m2) = some b2 := kit_ty h2
  unfold PySem.W.kitAny
  rw [e1]
  cases b1 with
  | true => rfl
  | false =>
    show PySem.W.kitAny K (.type n) [.type m2] = some b2
    unfold PySem.W.kitAny
    rw [e2]
    cases b2 with
    | true => rfl
    | false => rfl
theorem kit_int {d : Dd} (h : tyN d ≠ "?") : kitB (tyN d) "int" = some (tyN d == "int" || tyN d == "bool") := by
  rcases tyN_cases h with e | e | e | e | e | e | e <;> rw [e] <;> decide +kernel
theorem kit_bool {d : Dd} (h : tyN d ≠ "?") : kitB (tyN d) "bool" = some (tyN d == "bool") := by
  rcases tyN_cases h with e | e | e | e | e | e | e <;> rw [e] <;> decide +kernel
theorem kit_list {d : Dd} (h : tyN d ≠ "?") : kitB (tyN d) "list" = some (tyN d == "list") := by
  rcases tyN_cases h with e | e | e | e | e | e | e <;> rw [e] <;> decide +kernel
theorem kit_tuple {d : Dd} (h : tyN d ≠ "?") : kitB (tyN d) "tuple" = some (tyN d == "tuple") := by
  rcases tyN_cases h with e | e | e | e | e | e | e <;> rw [e] <;> decide +kernel
section
variable {K : PySem.W.Frag} {d : Dd}
theorem rc_isiD {n : String} {b : Bool} (h : tyN d ≠ "?") (hk : kitB (tyN d) n = some b) : Rc K (rIsi K) [d, .v (.ty n)] (.b b) := rc_isi (.type (tyN d)) (fun _ _ z => ty_of h z) (kit_ty hk)
end
end Mi

set_option maxHeartbeats 2000000
namespace Mi
open PySem PySem.Spec PyProof.Rows L2 Evl
/-! ### iter(t), t a tuple -/
abbrev itTup (t : Addr) (i : Nat) : Obj := { cls := .type "tuple_iterator", data := .fields #[.ref t, .int i 0] }
def TupO (t it : Addr) (i : Nat) : HO := .ext fun h => h.get? it = some (itTup t i)
theorem tupO_ok {P : Program} {w : World} {H : Hp} {h : Heap} {t it : Addr} {i : Nat} (e : h.get? it = some (itTup t i)) : ObjOk P w H h it (TupO t it i) := ⟨e, ⟨_, e⟩, fun h1 h2 q k => k _ q⟩
theorem call_iter_tup {prog : Program} {w : World} {A : Around} {E : Value → Shared → Prop} {s : Shared} {t : Addr} {items : Array Value} {Q : Value → Shared → Prop} (ht : s.heap.IsTuple t items) (h : Q (.ref s.heap.objs.size) { s with heap := s.heap.push (itTup t 0) }) : wpAny (model prog w) A (call (.builtin "iter") [.ref t]) Q E s := by
  refine Calls.call_function_entry (by decide +kernel) (by decide +kernel) PySem.W.kdk_entry_iter (PySem.W.kdk_args_iter _) ?_
  unfold Builtin.«iter»
  refine wpAny_bind (m := someArgs "iter" 1 2 _) (wpAny_of_eq (a := [Value.ref t]) (by first | rfl | kernel_rfl!) ?_)
  show wpAny _ _ (pyIter (.ref t) >>= _) _ _ _
  refine wpAny_bind (wpAny_pyIter_tuple ht ?_)
  exact wpAny_pure ⟨_, rfl, h⟩
def rIterT (K : PySem.W.Frag) (n : Nat) : List V → Hp → VK → Prop := fun xs H Q => ∃ (l : Addr) (zs : List V), xs = [.ref l] ∧ SqT K H l zs ∧ ∀ it, H it = Option.none → n ≤ it → Q (.ref it) (upd H it (TupO l it 0))
theorem cr_iterT {X : Cx} {K : PySem.W.Frag} {n : Nat} (hK : X.K = K := by rfl) (hn : X.s_0.heap.objs.size = n := by rfl) : CallR X (.builtin "iter") (rIterT K n) := by
  subst hK hn
  intro pins s σ H xs us Q I r h
  obtain ⟨l, zs, rfl, hq, q⟩ := h
  obtain ⟨u, rfl, ru⟩ := vals1 r
  cases ru
  obtain ⟨its, rv, pl, hz⟩ := I.tuple hq
  refine call_iter_tup (show s.heap.IsTuple l its.toArray from pl) ?_
  exact ⟨.ref s.heap.objs.size, _, I.laid (t' := s.toks) (fun b u e => Heap.get?_push_of_some _ e) (Nat.le_refl _) (tupO_ok (Heap.get?_push_size _ rfl)), rfl, q _ (I.hok.fresh (Nat.le_refl _)) I.sz⟩
/-! ### __iter__ that answers iter(self.f), f a tuple: the iterator is young -/
section
variable {P : Program} {w : World} {K : PySem.W.Frag} {mg : Str → Option Value} {base : Heap} {k : Nat} {f : Addr} {fd : FuncData} {N : List Str} {st : Stmt} {fl : Str} {x0 qual : Str}
/-- what is asked of such a def -/
structure IterFn (P : Program) (w : World) (K : PySem.W.Frag) (mg : Str → Option Value) (base : Heap) (k : Nat) (f : Addr) (C : Addr) (fl : Str) : Prop where
  it : PySem.W.findIn K (.ref C) "__iter__" = some (some (.ref f))
  fn : PySem.W.isFn K (.ref f) = true
  run : ∀ (A : Around) (outer : List Env) (s : Shared) (H : Hp) (x dx : Addr) (fs : List (Str × V)) (a : Addr) (zs : List V), Room k A → Env0 P w K mg base A outer s H → H x = some (.ins C dx fs) → fs.lookup fl = some (.ref a) → SqT K H a zs →
    codeAny (model P w) A (.call (.ref f) ⟨[.ref x], []⟩) (CR CX0 outer P w H s (fun v H' => ∃ it, v = .ref it ∧ s.heap.objs.size ≤ it ∧ H it = none ∧ H' = upd H it (TupO a it 0)) E0) s
theorem iter_mk {C : Addr} (F : Fun K x0 qual st f fd) (S : FnScope N ["self"] (defScope st)) (hi : PySem.W.findIn K (.ref C) "__iter__" = some (some (.ref f))) (hfn : PySem.W.isFn K (.ref f) = true) (cl : Cls K C) (na : NoAttr K C fl) (hN : N = (["self"] : List Str))
    (hb : Binds K fd ["self"] [])
    (hbody : ∀ (cdv : Value) (A : Around) (outer : List Env) (s : Shared) (H : Hp), Room k (A.deeper (envOfC qual (defScope st) s.heap.objs.size f cdv)) →
      PSs (cxOf CX0 P w K mg base N qual (defScope st) f cdv A outer s H E0).nox (defBody st) (tRet (tCB (rIterT K s.heap.objs.size) (tCons (tFld K (tVar 0) fl) tNil)))) : IterFn P w K mg base (k + 1) f C fl := by
  obtain ⟨oc, od, kV, doc, pm, an, cdv, ct, osl, rfl, lk, hcd⟩ := F.ex
  refine ⟨hi, hfn, fun A outer s H x dx fs a zs hr e0 hx hf hz => ?_⟩
  have KX : K.In s.heap := e0.mod.kin.keeps fun b o e => (e0.bs b o e).1
  have lim : s.heap.NoLimit := e0.mod.nolimit.keeps fun b o e => (e0.bs b o e).1
  have hkind : ∀ y ∈ (["self"] : List Str).zip [Value.ref x], (defScope st).names.lookup y.1 = some .local ∨ ((defScope st).names.lookup y.1 = some .cell ∧ ((cellsFrom (s.heap.objs.size + 1) (defScope st).names []).lookup y.1).isSome = true) := fun ⟨n, v⟩ hy => by
    rcases S.par n (List.of_mem_zip hy).1 with q | q
    · exact .inl q
    · exact .inr ⟨q, PySem.W.cellsFrom_some _ _ _ (.inl q)⟩
  have bd := hb s [.ref x] KX rfl
  rw [List.append_nil] at bd
  refine codeAny_call_function hr.depth (KX _ _ lk) rfl S.co S.gen rfl (PySem.W.codeRec_of KX hcd) (bd _ _ _ _ ?_)
  refine wpAny_newFunctionEnv_cells S.kind hkind fun env he s1 x1 => ?_
  subst he
  refine ⟨lim.keeps x1.toInCall.keep, codeAny_func ?_⟩
  have ht := (hbody cdv A outer s H (hr.deeper _)).nox
  have I : Inv (cxOf CX0 P w K mg base N qual (defScope st) f cdv A outer s H E0) [] (start N [.ref x]) H s1 := inv_start S hr.hd e0 rfl (.cons rfl .nil) x1
  have hq : tRet (tCB (rIterT K s.heap.objs.size) (tCons (tFld K (tVar 0) fl) tNil)) { nx := fun _ H' => False, rt := fun v H' => ∃ it, v = .ref it ∧ s.heap.objs.size ≤ it ∧ H it = none ∧ H' = upd H it (TupO a it 0) } (start N [.ref x]) H := by
    subst hN
    exact ⟨.ref x, rfl, x, C, dx, fs, .ref a, rfl, hx, cl, na, hf, a, zs, rfl, hz, fun it hn hle => ⟨it, rfl, hle, hn, rfl⟩⟩
  refine wpAny_mono (ht.run [] s1 (start N [.ref x]) H _ I hq) (fun fl' s' hs => ?_) fun e s' hs => hs
  cases fl' with
  | ret u =>
    obtain ⟨v, σ', H', J, rv, q⟩ := hs
    exact ⟨v, H', J.os, J.bare, J.base, J.hok, rv, q⟩
  | next =>
    obtain ⟨σ', H', J, q⟩ := hs
    exact False.elim q
  | brk =>
    obtain ⟨_, _, _, q⟩ := hs
    exact False.elim q
  | cont =>
    obtain ⟨_, _, _, q⟩ := hs
    exact False.elim q
end
def iOwn (K : PySem.W.Frag) (C : Addr) (fl : Str) (te : TE) : TI := fun σ H R => te σ H fun v H1 => ∃ x dx fs a zs, v = .ref x ∧ H1 x = some (.ins C dx fs) ∧ fs.lookup fl = some (.ref a) ∧ SqT K H1 a zs ∧ R (Itt K a) H1
theorem pi_own {X : Cx} {K : PySem.W.Frag} {tg l : Expr} {tl : TE} {k : Nat} {f C : Addr} {fl : Str} (F : IterFn X.prog X.w X.K X.mg X.base k f C fl) (hr : Room k X.A) (hl : PE X l tl) (hK : X.K = K := by rfl) : PI X tg l (iOwn K C fl tl) := by
  subst hK
  refine ⟨fun pins s σ H R I h => ?_⟩
  refine thn (hl.run pins s σ H _ I h) fun v s1 ⟨y, H1, I1, r1, q1⟩ => ?_
  obtain ⟨x, dx, fs, a, zs, e, hx, hf, hz, q⟩ := q1
  subst e
  cases r1
  obtain ⟨mA, J, _⟩ := ins_get I1.hok hx
  obtain ⟨od, J, _⟩ := J.look
  obtain ⟨m, hF⟩ := I1.fr
  refine PySem.W.owit_iter hF I1.ok.mod.kin J F.it F.fn ?_
  refine wpAny_call (codeAny_mono (F.run X.A X.stack s1 H1 x dx fs a zs hr I1.env0 hx hf hz) fun r s' hq => ?_)
  cases r with
  | error e => exact pass0 pins σ H1 s1 e s' I1 hq
  | ok fl' =>
    cases fl' with
    | ret u =>
      obtain ⟨v, H', I2, rv, it, rfl, hle, hn, rfl⟩ := I1.after hq
      cases rv
      have hg : s'.heap.get? it = some (itTup a 0) := (I2.hok it _ upd_same).1
      have I3 : Inv X pins σ H1 s' := by
        have := ItX.inv_drop I2 (show upd H1 it (TupO a it 0) it = some (.ext _) from upd_same)
        rwa [ItX.dropH_upd hn] at this
      have ti : s'.heap.IsTupleIter it a 0 := ⟨_, hg, rfl, rfl⟩
      refine wpAny_specialOf ti.typeIs PySem.F.slot_tuple_iterator_next.lookup ?_
      refine ⟨it, [it], _, _, H1, rfl, I3, turn_tuple a _, ti, fun b hb => ?_, q⟩
      have e : b = it := by simpa using hb
      subst e
      exact I1.fpOk hle hn
    | next => exact False.elim hq
    | brk => exact False.elim hq
    | cont => exact False.elim hq
end Mi

set_option maxHeartbeats 2000000
namespace Mi
open PySem PySem.Spec PyProof.Rows L2 Evl
open Sem (wp)
open AutoSeq1 (wpAny_loadPart')
/-! ### enumerate(t), t a tuple -/
theorem meets_enumT (l : Addr) (items : Array Value) (n : Nat) (dct : Option Addr) (sl : Array (Option Value)) :
    Meets (Builtin.«enumerate.__new__» ⟨[.type "enumerate", .ref l], []⟩) (fun _ R s => s.heap.get? l = some { cls := .type "tuple", dict := dct, data := .seq items n, slots := sl } ∧
      R (.ok (.ret (.ref (s.heap.push (itTup l 0)).objs.size)))
        { s with heap := (s.heap.push (itTup l 0)).push { cls := .type "enumerate", data := .fields #[.none, .bool false, .ref s.heap.objs.size, rawInt 0, .none, .none] } }) :=
  .of_wp fun prog w A R s h => by
    obtain ⟨hp, g, d, tk, os⟩ := s; obtain ⟨hl, h⟩ := h
    have hsub := sub_enumerate
    have hL : Heap.IsTuple (Shared.heap ⟨hp, g, d, tk, os⟩) l items := ⟨_, hl, rfl, n, rfl⟩
    wp_walk using wpAny_loadPart' hl
    refine wpAny_stack_any fun st => wpAny_pure ?_
    split
    · rename_i c _ _ _ _ _
      cases (c == Value.type "enumerate")
      · wp_walk using wpAny_loadPart' hl, wpAny_pyIter_tuple hL
        exact ⟨_, rfl, h⟩
      · wp_walk using wpAny_loadPart' hl, wpAny_pyIter_tuple hL
        exact ⟨_, rfl, h⟩
    · wp_walk using wpAny_loadPart' hl, wpAny_pyIter_tuple hL
      exact ⟨_, rfl, h⟩
theorem call_enumT {prog : Program} {w : World} {A : Around} {E : Value → Shared → Prop} {s : Shared} {l : Addr} {items : Array Value} {Q : Value → Shared → Prop} (hL : s.heap.IsTuple l items)
    (h : ∀ h', IsEnum h' (s.heap.objs.size + 1) s.heap.objs.size 0 .none → h'.IsTupleIter s.heap.objs.size l 0 → h'.objs.size = s.heap.objs.size + 2 →
      (∀ b o, s.heap.get? b = some o → h'.get? b = some o) → Q (.ref (s.heap.objs.size + 1)) { s with heap := h' }) :
    wpAny (model prog w) A (call (.type "enumerate") [.ref l]) Q E s := by
  obtain ⟨⟨c, dct, dt, sl⟩, hl, hc, n, hd⟩ := hL
  replace hc : c = .type "tuple" := hc
  replace hd : dt = .seq items n := hd
  subst hc hd
  refine callType_new PySem.F.called_enumerate (by decide) (PySem.F.typeCall_enumerate_1 _) (PySem.F.newCall_enumerate_1 _) (fun obj => PySem.F.args_object_init_2 obj _) PySem.F.entry_enumerate_new
    (meets_enumT l items n dct sl) ⟨hl, ?_⟩
  have hz : (s.heap.push (itTup l 0)).objs.size = s.heap.objs.size + 1 := Heap.size_push ..
  show _ ∧ _
  rw [hz]
  have he : IsEnum ((s.heap.push (itTup l 0)).push
      { cls := .type "enumerate", data := .fields #[.none, .bool false, .ref s.heap.objs.size, rawInt 0, .none, .none] }) (s.heap.objs.size + 1) s.heap.objs.size 0 .none := by
    have := Heap.get?_push_size (s.heap.push (itTup l 0))
      (o := { cls := .type "enumerate", data := .fields #[.none, .bool false, .ref s.heap.objs.size, rawInt 0, .none, .none] }) rfl
    rw [hz] at this; exact this
  refine ⟨⟨_, he, rfl⟩, h _ he ⟨_, Heap.get?_push_of_some _ (Heap.get?_push_size _ rfl), rfl, rfl⟩ (by rw [Heap.size_push, hz]) fun b o x => Heap.get?_push_of_some _ (Heap.get?_push_of_some _ x)⟩
def IteT (K : PySem.W.Frag) (a : Addr) : It :=
  ⟨fun i H => ∃ (xs : List V) (x : V), SqT K H a xs ∧ xs[i]? = some x, fun i H v H' => ∃ T x, v = .ref T ∧ H T = none ∧ H' = upd H T (.tup [.int (i : Nat), x]) ∧ ∀ xs, SqT K H a xs → xs[i]? = some x, fun i H => ∃ xs : List V, SqT K H a xs ∧ xs.length ≤ i⟩
theorem turn_enumT {P : Program} {w : World} {K : PySem.W.Frag} {elts : List Expr} {kk : Nat} {tpos : Pos} (a e it : Addr) :
    Turn P w K (.Tuple elts kk tpos) (IteT K a) [e, it] e (fun i h => (∃ old, IsEnum h e it ((i : Nat) : Int) old) ∧ h.IsTupleIter it a i ∧ e ≠ it ∧ a ≠ it ∧ e ≠ a) where
  mem := by simp
  obj := fun i h st b hb => by
    obtain ⟨⟨old, he⟩, ⟨o, ho, hc, hd⟩, _⟩ := st
    have e' : b = e ∨ b = it := by simpa using hb
    rcases e' with z | z
    · rw [z]; exact ⟨_, he, fun v q => nomatch q⟩
    · rw [z]; exact ⟨o, ho, fun v q => by rw [hd] at q; cases q⟩
  keep := fun i h h' st k => let ⟨⟨old, he⟩, hi, hne⟩ := st; ⟨⟨old, k e (by simp) _ he⟩, hi.at fun o q => k it (by simp) o q, hne⟩
  item := by
    intro X hP hw hK hc i pins s σ H E I hf st hg
    subst hP hw hK
    obtain ⟨⟨old, he⟩, hit, hne, hai, hea⟩ := st
    obtain ⟨xs, x, hq, hx⟩ := hg
    obtain ⟨its, rv, p, hz⟩ := I.tuple hq
    obtain ⟨u, hu, ru⟩ := rv.get hx
    have hel : e < s.heap.objs.size := Heap.lt_size he
    have hil : it < s.heap.objs.size := by obtain ⟨_, q, _⟩ := hit; exact Heap.lt_size q
    have hlt : i < its.toArray.size := by
      have := (List.getElem?_eq_some_iff.mp hu).1
      simpa using this
    refine wpAny_pyNext_enum_itemD (Draws.tuple (A := X.A.in1) (I.ok.hd hc) it a hai its.toArray) he ⟨hit, show s.heap.IsTuple a its.toArray from p⟩ hlt hne (by simp [hne, hea]) fun v h' tk hP ho st' hT hsz hk => ?_
    have ev : v = u := by
      have h1 : its.toArray[i]? = some v := hP
      have h2 : its.toArray[i]? = some u := by simpa using hu
      rw [h1] at h2
      exact Option.some.inj h2
    subst ev
    obtain ⟨hit', _⟩ := st'
    refine ⟨_, rfl, wpAny_letOwnedTupleGo_enum (s := { s with heap := h', toks := tk + 1 }) ho fun h'' he' sb => ?_⟩
    have hT2 : h''.get? s.heap.objs.size = some { cls := .type "tuple", data := .seq #[.int i tk, v] } := (sb.2 _ (Nat.ne_of_gt hel)).trans hT
    have new : ObjOk X.prog X.w (upd H s.heap.objs.size (.tup [.int (i : Nat), x])) h'' s.heap.objs.size (.tup [.int (i : Nat), x]) :=
      ⟨by show 2 ≤ sizeLine; decide, [.int i tk, v], .cons ⟨_, rfl⟩ (.cons ru .nil), ⟨_, hT2, rfl, _, rfl⟩⟩
    have I1 : Inv X pins σ (upd H s.heap.objs.size (.tup [.int (i : Nat), x])) { s with heap := h'', toks := tk + 1 } :=
      I.turnedNew (ch := [e, it]) (fun b ob hb q => (sb.2 b (fun z => hb (by simp [z]))).trans (hk b ob (fun z => hb (by simp [z])) (fun z => hb (by simp [z])) q)) hf (Nat.le_refl _) new
    refine ⟨.ref s.heap.objs.size, _, I1, rfl, ⟨_, x, rfl, I.hok.fresh (Nat.le_refl _), rfl, fun ys hy => by rw [I.tuple_inj hy hq]; exact hx⟩, ⟨⟨v, ?_⟩, hit'.at fun o q => (sb.2 it (Ne.symm hne)).trans q, hne, hai, hea⟩, fun b hb => ?_⟩
    · have e1 : ((i + 1 : Nat) : Int) = (i : Int) + 1 := by omega
      rw [e1]; exact he'
    · have hb' : b < s.heap.objs.size := by
        have e' : b = e ∨ b = it := by simpa using hb
        rcases e' with z | z
        · rw [z]; exact hel
        · rw [z]; exact hil
      rw [upd_ne (Nat.ne_of_lt hb')]
      exact (hf b hb).1
  done := by
    intro X hP hw hK hc i pins s σ H E I hf st hg
    subst hP hw hK
    obtain ⟨⟨old, he⟩, hit, hne, hai, hea⟩ := st
    obtain ⟨xs, hq, hx⟩ := hg
    obtain ⟨its, rv, p, hz⟩ := I.tuple hq
    obtain ⟨f0, f1, f2, f3, f4, f5⟩ := hf it (by simp)
    have hl := rv.length
    have hp : s.heap.IsTuple a its.toArray := p
    have D : Draws X.prog X.w X.A.in1 it [it, a] i (fun _ _ => False) (fun j h => j = i ∧ h.IsTupleIter it a i ∧ h.IsTuple a its.toArray) :=
      { live := fun _ _ st => let ⟨_, ⟨o, ho, _⟩, _⟩ := st; ⟨o, ho⟩
        frame := fun _ _ _ st hk => ⟨st.1, st.2.1.at fun o e => hk it (by simp) o e, st.2.2.at fun o e => hk a (by simp) o e⟩
        item := fun j s Q E hj st _ => absurd st.1 (Nat.ne_of_lt hj)
        done := fun s Q E st hE => wpAny_nextOf_tuple_end (I.ok.hd hc) st.2.1 st.2.2 (by simp; omega) hE }
    exact wpAny_pyNext_enum_endD D he ⟨rfl, hit, hp⟩ fun h' eb => ⟨rfl, I.turned (t' := s.toks) (fun b o hb q => eb b o hb q) f0 f1 f3 f4 f5⟩
  self := fun A i s Q E st h => let ⟨⟨_, he⟩, _⟩ := st; wpAny_pyIter_enum he h
def iEnumT (K : PySem.W.Frag) (ta : TA) : TI := fun σ H R => ta σ H fun vs H1 => ∃ a xs, vs = [.ref a] ∧ SqT K H1 a xs ∧ R (IteT K a) H1
theorem pi_enumT {X : Cx} {K : PySem.W.Frag} {e : Expr} {ta : TA} {p pos tpos : Pos} {elts : List Expr} {kk : Nat} (hg : Gl X "enumerate") (hm : X.mg "enumerate" = none) (ha : PA X [e] ta) (hK : X.K = K := by rfl) (hs : starEach [e] X.env = [(false, eval e X.env)] := by rfl) :
    PI X (.Tuple elts kk tpos) (.Call (.Name "enumerate" p) [e] [] pos) (iEnumT K ta) := by
  subst hK
  refine ⟨fun pins s σ H R I h => ?_⟩
  refine Call_ (ld_blt I hg hm boot_enumerate (PyProof.Rows.callWith_type1 (thn (ha.run pos pins s σ H _ I h) fun us s1 ⟨vs, H1, I1, r1, q1⟩ => ?_) hs rfl))
  obtain ⟨a, xs, ex, hq, q⟩ := q1
  subst ex
  cases r1 with
  | cons r rr =>
    cases rr
    cases r
    obtain ⟨its, rv, p', hz⟩ := I1.tuple hq
    have hal : a < s1.heap.objs.size := by
      obtain ⟨o, e, _⟩ := p'
      exact Heap.lt_size e
    refine call_enumT (show s1.heap.IsTuple a its.toArray from p') fun h' he hit hsz hk => wpAny_pyIter_enum he ?_
    have I2 : Inv X pins σ H1 { s1 with heap := h' } := I1.kept (t' := s1.toks) hk
    refine ⟨s1.heap.objs.size + 1, [s1.heap.objs.size + 1, s1.heap.objs.size], _, _, H1, rfl, I2, turn_enumT a (s1.heap.objs.size + 1) s1.heap.objs.size, ⟨⟨.none, he⟩, hit, Nat.succ_ne_self _, Nat.ne_of_lt hal, Nat.ne_of_gt (Nat.lt_succ_of_lt hal)⟩, fun b hb => ?_, q⟩
    have e' : b = s1.heap.objs.size + 1 ∨ b = s1.heap.objs.size := by simpa using hb
    have hle : s1.heap.objs.size ≤ b := by
      rcases e' with z | z
      · rw [z]; exact Nat.le_add_right _ _
      · rw [z]; exact Nat.le_refl _
    exact I1.fpOk hle (I1.hok.fresh hle)
section
variable {K : PySem.W.Frag} {σ : L2.St} {G A : Hp} {te tl : TE} {d d1 d2 d3 : Dd} {d0 : V} {ds : List Dd} {v : V}
theorem if_enumT (h : Ef K tl σ G (.U ds)) : Itf K (iEnumT K (tCons tl tNil)) σ G (ds.zipIdx.map fun p => Dd.U [.i (p.2 : Int), p.1]) := fun G1 A e1 e2 R r =>
  h G1 A e1 e2 _ fun v G2 A2 s ⟨p, vs, ep, hp, hE⟩ => by
    subst ep
    refine ⟨p, vs, rfl, ex_t s.v hp, r _ G2 A2 s fun i G' A' e3 e4 => ⟨fun d hd => ?_, fun hi => ?_⟩⟩
    · rw [List.getElem?_map, List.getElem?_zipIdx] at hd
      cases hx : ds[i]? with
      | none => rw [hx] at hd; cases hd
      | some x =>
        rw [hx] at hd
        have ed : Dd.U [.i (((0 + i : Nat)) : Int), x] = d := Option.some.inj hd
        rw [Nat.zero_add] at ed
        obtain ⟨y, hy, z⟩ := isE_at hE hx
        refine ⟨⟨vs, y, ex_t (e3.trans e4) hp, hy⟩, fun w A'' hyl => ?_⟩
        obtain ⟨T, x', rfl, hT, rfl, hall⟩ := hyl
        have ev := (hall vs (ex_t (e3.trans e4) hp)).symm.trans hy
        rw [Option.some.inj ev, ← ed]
        refine ⟨_, .new e4 hT, T, [.int (i : Int), y], rfl, st_of upd_same, .int (i : Int), [y], rfl, rfl, y, [], rfl, (z.mono e3).mono (Ex.new (ex_out e4 hT)), rfl⟩
    · rw [List.length_map, List.length_zipIdx] at hi
      exact ⟨vs, ex_t (e3.trans e4) hp, by rw [← isE_len hE]; omega⟩
/-- i, (a, b) -/
theorem g_nest {j0 j1 j2 : Nat} {Q : L2.St → Hp → Prop} (hA : Ex G A) (h : Is K G (.U [.v d0, .U [d1, d2]]) v) (k : ∀ v1 v2, Is K G d1 v1 → Is K G d2 v2 → Q (((σ.set j0 (some d0)).set j1 (some v1)).set j2 (some v2)) A) :
    gTup K 2 (gCons (gName j0) (gCons (gTup K 2 (gCons (gName j1) (gCons (gName j2) gNil))) gNil)) v σ A Q := by
  obtain ⟨T, vs, rfl, hT, x, r, rfl, hx, y, r2, rfl, hy, hr⟩ := h
  have er : r2 = [] := hr
  subst er
  obtain rfl : x = d0 := hx
  exact ⟨T, [x, y], rfl, ex_t hA hT, rfl, x, [y], rfl, y, [], rfl, g_two hA hy fun v1 v2 h1 h2 => ⟨rfl, k v1 v2 h1 h2⟩⟩
/-- a walk over an object whose __iter__ answers iter(self.f) -/
theorem if_own {C : Addr} {fl : Str} (h : ∀ G1 A, Ex G G1 → Ex G1 A → ∀ Q : VK, (∀ x dx fs a, A x = some (.ins C dx fs) → fs.lookup fl = some (.ref a) → Is K G1 (.U ds) (.ref a) → Q (.ref x) A) → te σ A Q) : Itf K (iOwn K C fl te) σ G ds := fun G1 A e1 e2 R r =>
  h G1 A e1 e2 _ fun x dx fs a hx hf ⟨p, vs, ep, hp, hE⟩ => by
    cases ep
    refine ⟨x, dx, fs, a, vs, rfl, hx, hf, ex_t e2 hp, r _ G1 A (.refl e2) fun i G' A' e3 e4 => ⟨fun d hd => ?_, fun hi => ⟨vs, ex_t (e3.trans e4) hp, by rw [← isE_len hE]; omega⟩⟩⟩
    obtain ⟨y, hy, z⟩ := isE_at hE hd
    refine ⟨⟨vs, y, ex_t (e3.trans e4) hp, hy⟩, fun v A'' hyl => ?_⟩
    obtain ⟨rfl, hall⟩ := hyl
    have ev := (hall vs (ex_t (e3.trans e4) hp)).symm.trans hy
    rw [Option.some.inj ev]
    exact ⟨G', .refl e4, z.mono e3⟩
end
theorem ps_never {X : Cx} {st : Stmt} : PS X st (fun _ _ _ => False) := ⟨fun _ _ _ _ _ _ h => False.elim h⟩
end Mi

set_option maxHeartbeats 2000000
namespace Mi
open PySem PySem.Spec PyProof.Rows L2 Evl
section
variable {K : PySem.W.Frag} {σ : L2.St} {G A : Hp} {te tk tv : TE} {t : TT} {wi : TI} {g : TG} {d : Dd} {D : Ends} {tz : TS}
theorem s_drop (h : Ef K te σ G d) (hA : Ex G A) (k : ∀ v G' A', Step G A G' A' → Is K G' d v → tz D σ A') : tSeq (tDrop te) tz D σ A := h G A (Ex.refl G) hA _ fun v G' A' s z => k v G' A' s z
/-- a dict comprehension: what it holds is not told -/
theorem ef_dc {α : Type} {its : List α} {inj : α → Dd} {vs : List Nat} (h : Itf K wi σ G (its.map inj)) (hz : its.length ≤ 50000)
    (hs : ∀ (i : Nat) x v G' A', Ex G G' → Ex G' A' → its[i]? = some x → Is K G' (inj x) v → ∃ σ2, (∀ Q : L2.St → Hp → Prop, Q σ2 A' → g v (wipe σ vs) A' Q) ∧ wipe σ2 vs = wipe σ vs ∧ ∃ (k : Key) (z : V), Er K tk σ2 A' (.v (kV k)) ∧ Er K tv σ2 A' (.v z)) :
    Ef K (tDc wi g tYes tk tv vs) σ G .D := fun G0 A0 e0 ea0 Q q =>
  h G0 A0 e0 ea0 _ fun J G1 A1 s1 hw => fun Dl hD => by
    have gD := ex_out s1.v hD
    refine ⟨fun i m A' => m = its.length - i ∧ i ≤ its.length ∧ ∃ G', Step G1 A1 G' A' ∧ G' Dl = none ∧ ∃ kvs, A' Dl = some (.dK kvs) ∧ kvs.length ≤ i, ⟨_, rfl, Nat.zero_le _, G1, .on s1.v (Ex.new hD), gD, [], upd_same, Nat.le_refl _⟩, ?_⟩
    rintro i m A' ⟨rfl, hi, G', st, hg, kvs, hu, hl⟩
    by_cases hlt : i < its.length
    · have hx : its[i]? = some its[i] := List.getElem?_eq_getElem hlt
      have hd' : (its.map inj)[i]? = some (inj its[i]) := by rw [List.getElem?_map, hx]; rfl
      obtain ⟨go, yl⟩ := (hw i G' A' st.g st.v).1 _ hd'
      refine .inr ⟨go, fun A3 => ∃ G3, Step G1 A1 G3 A3 ∧ G3 Dl = none ∧ ∃ kvs, A3 Dl = some (.dK kvs) ∧ kvs.length ≤ i + 1, fun A3 p3 => ⟨its.length - (i + 1), by omega, rfl, hlt, p3⟩, fun v A'' y => ?_⟩
      obtain ⟨G2, s2, z⟩ := yl v A'' y
      have uN : A' Dl ≠ none := by rw [hu]; simp
      have g2 := s2.f Dl uN hg
      have u2 := s2.a Dl _ hu
      obtain ⟨σ2, hgt, hwp, k, zv, htk, htv⟩ := hs i _ v G2 A'' ((e0.trans s1.g).trans (st.g.trans s2.g)) s2.v hx z
      refine hgt _ ⟨hwp, ?_⟩
      unfold tYes
      dsimp only
      rw [if_pos rfl]
      refine htk A'' (Ex.refl _) _ fun w A3 e3 zw => ?_
      refine htv A3 e3 _ fun w2 A4 e4 zw2 => ?_
      have s4 := (st.trans s2).trans (Step.on s2.v (e3.trans e4))
      refine ⟨kvs, k, zw, e4 Dl _ (e3 Dl _ u2), sz_lt (by omega), G2, s4.grow hD g2, g2, _, upd_same, ?_⟩
      have := length_putK kvs k w2
      omega
    · have e : i = its.length := by omega
      subst e
      refine .inl ⟨(hw _ G' A' st.g st.v).2 (by rw [List.length_map]), q _ (upd G' Dl (.dK kvs)) A' (s1.trans (st.seal hD hg hu)) ⟨Dl, kvs, rfl, upd_same⟩⟩
end
/-! ### a stock -/
abbrev prD (sts : List (List Nat × List Nat)) : List Dd := sts.map fun p => Dd.U [.s (S p.1), .s (S p.2)]
def stFlds (n : Int) (ps dd : Addr) : List (Str × V) := putF "_stamp_of" (.ref dd) (putF "stamps" (.ref ps) (putF "size" (.int n) []))
theorem ne_ss : ¬ (("size" : Str) = "stamps") := by decide +kernel
theorem ne_so : ¬ (("size" : Str) = "_stamp_of") := by decide +kernel
theorem ne_to : ¬ (("stamps" : Str) = "_stamp_of") := by decide +kernel
theorem stFlds_size (n : Int) (ps dd : Addr) : (stFlds n ps dd).lookup ("size" : Str) = some (.int n) := by
  unfold stFlds
  rw [lookup_putF, if_neg ne_so, lookup_putF, if_neg ne_ss, lookup_putF, if_pos rfl]
theorem stFlds_stamps (n : Int) (ps dd : Addr) : (stFlds n ps dd).lookup ("stamps" : Str) = some (.ref ps) := by
  unfold stFlds
  rw [lookup_putF, if_neg ne_to, lookup_putF, if_pos rfl]
def stockD (K : PySem.W.Frag) (C : Addr) (n : Int) (sts : List (List Nat × List Nat)) : Dd := .P ⟨fun H y => ∃ x dx ps dd kvs, y = .ref x ∧ H x = some (.ins C dx (stFlds n ps dd)) ∧ Is K H (.U (prD sts)) (.ref ps) ∧ H dd = some (.dK kvs), by
  rintro H H' y e ⟨x, dx, ps, dd, kvs, rfl, h1, h2, h3⟩
  exact ⟨x, dx, ps, dd, kvs, rfl, e x _ h1, h2.mono e, e dd _ h3⟩⟩
section
variable {K : PySem.W.Frag} {σ : L2.St} {G A : Hp} {te : TE} {C : Addr} {n : Int} {sts : List (List Nat × List Nat)} {x : V} {i : Nat}
/-- stock.stamps -/
theorem ef_stamps (cl : Cls K C) (na : NoAttr K C "stamps") (h : Ef K te σ G (stockD K C n sts)) : Ef K (tFld K te "stamps") σ G (.U (prD sts)) := fun G1 A e1 e2 Q q =>
  h G1 A e1 e2 _ fun v G2 A2 s ⟨x, dx, ps, dd, kvs, ev, h1, h2, h3⟩ => by
    subst ev
    exact ⟨x, C, dx, _, .ref ps, rfl, s.v x _ h1, cl, na, stFlds_stamps n ps dd, q _ G2 A2 s h2⟩
/-- for .. in stock, the stock in slot i -/
theorem if_stock (hx : σ[i]? = some (some x)) (h : Is K G (stockD K C n sts) x) : Itf K (iOwn K C "stamps" (tVar i)) σ G (prD sts) := if_own fun G1 A e1 e2 Q q => by
  obtain ⟨x0, dx, ps, dd, kvs, rfl, h1, h2, h3⟩ := h
  exact ⟨.ref x0, hx, q x0 dx _ ps (e2 x0 _ (e1 x0 _ h1)) (stFlds_stamps n ps dd) (h2.mono e1)⟩
end
end Mi

set_option maxHeartbeats 2000000
namespace Mi
open PySem PySem.Spec PyProof.Rows L2 Evl
/-! ### lists and tuples of texts compared -/
section
variable {K : PySem.W.Frag} {H : Hp}
theorem dpAll_strs : ∀ ys : List (List Nat), DpAll K H (vsl ys) (ys.map fun l => PyData.str (S l))
  | [] => .nil
  | n :: r => .cons (.str (S n)) (dpAll_strs r)
theorem eqv_strs : ∀ xs ys : List (List Nat), PyData.eqvAll (xs.map fun l => PyData.str (S l)) (ys.map fun l => PyData.str (S l)) = decide (xs = ys)
  | [], [] => by simp [PyData.eqvAll]
  | [], _ :: _ => by simp [PyData.eqvAll]
  | _ :: _, [] => by simp [PyData.eqvAll]
  | a :: r, b :: t => by
    simp only [List.map_cons, PyData.eqvAll, PyData.eqv, eqv_strs r t]
    by_cases h : a = b
    · by_cases h' : r = t <;> simp [h, h']
    · have h2 : ¬ (S a = S b) := fun e => h (S_inj e)
      simp [h, h2]
def okT (l : List Nat) : Prop := PyData.strOk (S l) = true
theorem canLay_strs : ∀ ys : List (List Nat), (∀ l ∈ ys, okT l) → PyData.canLayAll0 (ys.map fun l => PyData.str (S l)) = true ∧ PyData.depthAll (ys.map fun l => PyData.str (S l)) = 0
  | [], _ => ⟨by simp [PyData.canLayAll0], by simp [PyData.depthAll]⟩
  | a :: r, h => by
    obtain ⟨h1, h2⟩ := canLay_strs r fun l hl => h l (List.mem_cons_of_mem _ hl)
    have h0 : PyData.strOk (S a) = true := h a (List.mem_cons_self ..)
    refine ⟨?_, ?_⟩
    · simp only [List.map_cons, PyData.canLayAll0, PyData.canLay0, h0, h1, Bool.and_self]
    · simp only [List.map_cons, PyData.depthAll, PyData.depth, h2]
      rfl
theorem shaped_strs {ys : List (List Nat)} (h : ∀ l ∈ ys, okT l) : SeqAt.shaped (.list (ys.map fun l => PyData.str (S l))) = true ∧ SeqAt.shaped (.tuple (ys.map fun l => PyData.str (S l))) = true := by
  obtain ⟨h1, h2⟩ := canLay_strs ys h
  simp [SeqAt.shaped, PyData.canLay0, PyData.depth, h1, h2]
theorem ro_eqLs {xs ys : List (List Nat)} (hx : ∀ l ∈ xs, okT l) (hy : ∀ l ∈ ys, okT l) : Ro K (rEqD K) (.l (vsl xs)) (.l (vsl ys)) (.v (.bl (decide (xs = ys)))) := by
  rintro _ _ H1 ⟨p, rfl, hp⟩ ⟨p', rfl, hp'⟩ Q q
  refine ⟨_, _, .lst hp (dpAll_strs xs), .lst hp' (dpAll_strs ys), (shaped_strs hx).1, (shaped_strs hy).1, q _ H1 (Ex.refl H1) ?_⟩
  show V.bl (PyData.eqvAll _ _) = _
  rw [eqv_strs]
theorem ro_neLs {xs ys : List (List Nat)} (hx : ∀ l ∈ xs, okT l) (hy : ∀ l ∈ ys, okT l) : Ro K (rNeD K) (.l (vsl xs)) (.l (vsl ys)) (.v (.bl (!decide (xs = ys)))) := by
  rintro _ _ H1 ⟨p, rfl, hp⟩ ⟨p', rfl, hp'⟩ Q q
  refine ⟨_, _, .lst hp (dpAll_strs xs), .lst hp' (dpAll_strs ys), (shaped_strs hx).1, (shaped_strs hy).1, q _ H1 (Ex.refl H1) ?_⟩
  show V.bl (!PyData.eqvAll _ _) = _
  rw [eqv_strs]
theorem ro_eqUs {xs ys : List (List Nat)} (hx : ∀ l ∈ xs, okT l) (hy : ∀ l ∈ ys, okT l) : Ro K (rEqD K) (.u (vsl xs)) (.u (vsl ys)) (.v (.bl (decide (xs = ys)))) := by
  rintro _ _ H1 ⟨p, rfl, hp⟩ ⟨p', rfl, hp'⟩ Q q
  refine ⟨_, _, .tup hp (dpAll_strs xs), .tup hp' (dpAll_strs ys), (shaped_strs hx).2, (shaped_strs hy).2, q _ H1 (Ex.refl H1) ?_⟩
  show V.bl (PyData.eqvAll _ _) = _
  rw [eqv_strs]
/-! ### pairs of texts -/
def prP (p : List Nat × List Nat) : PyData := .tuple [.str (S p.1), .str (S p.2)]
theorem dpAll_prs : ∀ {sts : List (List Nat × List Nat)} {vs : List V}, IsE K H (prD sts) vs → DpAll K H vs (sts.map prP)
  | [], vs, h => by rw [show vs = [] from h]; exact .nil
  | p :: r, vs, h => by
    obtain ⟨x, rs, rfl, ⟨T, us, rfl, hT, y1, r1, rfl, hy1, y2, r2, rfl, hy2, hr2⟩, b⟩ := h
    have er : r2 = [] := hr2
    subst er
    obtain rfl : y1 = V.str (S p.1) := hy1
    obtain rfl : y2 = V.str (S p.2) := hy2
    exact .cons (.tup hT (.cons (.str _) (.cons (.str _) .nil))) (dpAll_prs b)
theorem eqv_prs_refl : ∀ sts : List (List Nat × List Nat), PyData.eqvAll (sts.map prP) (sts.map prP) = true
  | [] => by simp [PyData.eqvAll]
  | p :: r => by
    simp only [List.map_cons, PyData.eqvAll, PyData.eqv, prP, eqv_prs_refl r]
    simp [PyData.eqvAll, PyData.eqv]
theorem canLay_prs : ∀ sts : List (List Nat × List Nat), (∀ p ∈ sts, okT p.1 ∧ okT p.2) → PyData.canLayAll0 (sts.map prP) = true ∧ PyData.depthAll (sts.map prP) ≤ 1
  | [], _ => ⟨by simp [PyData.canLayAll0], by simp [PyData.depthAll]⟩
  | p :: r, h => by
    obtain ⟨h1, h2⟩ := canLay_prs r fun l hl => h l (List.mem_cons_of_mem _ hl)
    obtain ⟨a1, a2⟩ := h p (List.mem_cons_self ..)
    have b1 : PyData.strOk (S p.1) = true := a1
    have b2 : PyData.strOk (S p.2) = true := a2
    refine ⟨?_, ?_⟩
    · simp only [List.map_cons, PyData.canLayAll0, PyData.canLay0, prP, b1, b2, h1, Bool.and_self]
    · simp only [List.map_cons, PyData.depthAll, PyData.depth, prP]
      omega
theorem ro_eqPr {sts : List (List Nat × List Nat)} (h : ∀ p ∈ sts, okT p.1 ∧ okT p.2) : Ro K (rEqD K) (.U (prD sts)) (.U (prD sts)) (.b true) := by
  rintro _ _ H1 ⟨p, vs, rfl, hp, hE⟩ ⟨p', vs', rfl, hp', hE'⟩ Q q
  obtain ⟨h1, h2⟩ := canLay_prs sts h
  have sh : SeqAt.shaped (.tuple (sts.map prP)) = true := by
    simp [SeqAt.shaped, PyData.canLay0, PyData.depth, h1]
    omega
  refine ⟨_, _, .tup hp (dpAll_prs hE), .tup hp' (dpAll_prs hE'), sh, sh, q _ H1 (Ex.refl H1) ?_⟩
  show V.bl (PyData.eqvAll _ _) = _
  rw [eqv_prs_refl]
end
section
variable {K : PySem.W.Frag} {σ : L2.St} {G : Hp} {ta tb : TE} {tr : TA} {d1 d2 : Dd} {C : Addr} {n : Nat} {sts : List (List Nat × List Nat)}
theorem ef_call2 {T : Type} {pre : T → Prop} {args : T → List Dd} {ret : T → Dd} (a : T) (h1 : Ef K ta σ G d1) (h2 : Ef K tb σ G d2) (hd : [d2, d1] = args a) (hp : pre a) : Ef K (tCall2 (spF K pre args ret) ta tb) σ G (ret a) := fun G1 A e1 e2 Q q =>
  h1 G1 A e1 e2 _ fun v1 G2 A2 s z1 => h2 G2 A2 (e1.trans s.g) s.v _ fun v2 G3 A3 s3 z2 => ⟨v1, v2, rfl, a, hp, G3, s3.v, hd ▸ .cons z2 (.cons (z1.mono s3.g) .nil), fun v G4 A4 s4 z => q v G4 A4 ((s.trans s3).trans s4) z⟩
end
end Mi
namespace Mi
open PySem PySem.Spec PyProof.Rows L2 Evl
theorem okT_of {l : List Nat} (h : ∀ c ∈ l, c < 1114112) : okT l := by
  unfold okT PyData.strOk
  rw [← Array.all_toList]
  show l.all _ = true
  rw [List.all_eq_true]
  exact fun c hc => decide_eq_true (h c hc)
section
variable {K : PySem.W.Frag} {σ : L2.St} {H H' : Hp} {te ta tb : TE} {tr : TA} {d1 d2 : Dd} {ds : List Dd} {D : Ends} {tz : TS} {C : Addr} {n : Nat} {sts : List (List Nat × List Nat)}
theorem er_callF {T : Type} {pre : T → Prop} {args : T → List Dd} {ret : T → Dd} {E : XK} (a : T) (h : Era K tr σ H ds) (hd : ds = args a) (hp : pre a) : Er K (tCall (spF K pre args ret) [] E tr) σ H (ret a) := fun H1 e Q q =>
  h H1 e _ fun vs H2 e2 z => by
    rw [List.append_nil]
    exact ⟨a, hp, H2, Ex.refl _, hd ▸ z, fun v G' A' s z3 => q v A' (e2.trans s.a) (z3.mono s.v)⟩
theorem er_call2F {T : Type} {pre : T → Prop} {args : T → List Dd} {ret : T → Dd} (a : T) (h1 : Er K ta σ H d1) (h2 : Er K tb σ H d2) (hd : [d2, d1] = args a) (hp : pre a) : Er K (tCall2 (spF K pre args ret) ta tb) σ H (ret a) := fun H1 e Q q =>
  h1 H1 e _ fun v1 H2 e2 z1 => h2 H2 (e.trans e2) _ fun v2 H3 e3 z2 => ⟨v1, v2, rfl, a, hp, H3, Ex.refl _, hd ▸ .cons z2 (.cons (z1.mono e3) .nil), fun v G' A' s z => q v A' ((e2.trans e3).trans s.a) (z.mono s.v)⟩
/-- a new list that is written out and will grow -/
theorem a_newL {i : Nat} {vs : List V} (h : Era K tr σ H (vs.map Dd.v)) (hl : vs.length ≤ 100000) (k : ∀ p H1, H p = none → Ex H H1 → H1 p = some (.lst vs) → tz D (σ.set i (some (.ref p))) H1) : tSeq (tAsg (tLst tr) (gName i)) tz D σ H :=
  h H (Ex.refl H) _ fun ws H2 e2 z => by
    have ew := flat_all z
    subst ew
    exact ⟨sz_of hl, fun p hp => k p _ (fresh_back e2 hp) (e2.trans (Ex.new hp)) upd_same⟩
theorem uS {xs : List (List Nat)} {v : V} (h : Is K H (.U (xs.map fun l => Dd.s (S l))) v) : Is K H (.u (vsl xs)) v := by
  refine Is.U2u (xs := vsl xs) ?_
  rw [vsl, vss, List.map_map, List.map_map]
  exact h
theorem nS {xs : List (List Nat)} {v : V} (h : Is K H (.N (xs.map fun l => Dd.s (S l))) v) : Is K H (.n (vsl xs)) v := by
  refine Is.N2n (xs := vsl xs) ?_
  rw [vsl, vss, List.map_map, List.map_map]
  exact h
end
/-- some texts of one length -/
def layersD (K : PySem.W.Frag) (n : Nat) : Dd := .P ⟨fun H y => ∃ L : List (List Nat), (∀ l ∈ L, l.length = n) ∧ 1 ≤ L.length ∧ L.length ≤ 50 ∧ Is K H (.n (vsl L)) y, by
  rintro H H' y e ⟨L, h1, h2, h3, h4⟩
  exact ⟨L, h1, h2, h3, h4.mono e⟩⟩
end Mi

set_option maxHeartbeats 2000000
namespace Mi
open PySem PySem.Spec PyProof.Rows L2 Evl
/-! ### things of any kind: texts, nested lists and tuples, dicts, an object -/
section
variable {K : PySem.W.Frag} {H H' : Hp}
mutual
theorem dp_mono (e : Ex H H') : ∀ {x : V} {d : PyData}, Dp K H x d → Dp K H' x d
  | _, _, .non => .non
  | _, _, .bl b => .bl b
  | _, _, .int i => .int i
  | _, _, .str x => .str x
  | _, _, .lst h hs => .lst (ex_l e h) (dpAll_mono e hs)
  | _, _, .tup h hs => .tup (ex_t e h) (dpAll_mono e hs)
theorem dpAll_mono (e : Ex H H') : ∀ {xs : List V} {ds : List PyData}, DpAll K H xs ds → DpAll K H' xs ds
  | _, _, .nil => .nil
  | _, _, .cons a b => .cons (dp_mono e a) (dpAll_mono e b)
end
def datV : V → PyData
  | .bl b => .bool b
  | .int i => .int i
  | .str x => .str x
  | _ => .none
def goodV : V → Bool
  | .non => true
  | .bl _ => true
  | .int _ => true
  | .str _ => true
  | _ => false
mutual
def datD : Dd → PyData
  | .v x => datV x
  | .N ds => .list (datL ds)
  | .U ds => .tuple (datL ds)
  | _ => .none
def datL : List Dd → List PyData
  | [] => []
  | d :: r => datD d :: datL r
end
mutual
def goodD : Dd → Bool
  | .v x => goodV x
  | .N ds => goodL ds
  | .U ds => goodL ds
  | _ => false
def goodL : List Dd → Bool
  | [] => true
  | d :: r => goodD d && goodL r
end
theorem dp_v : ∀ {x : V}, goodV x = true → Dp K H x (datV x)
  | .non, _ => .non
  | .bl b, _ => .bl b
  | .int i, _ => .int i
  | .str z, _ => .str z
  | .byt _, h => by cases h
  | .flt _, h => by cases h
  | .ref _, h => by cases h
  | .ty _, h => by cases h
mutual
theorem dp_of : ∀ {d : Dd} {x : V}, goodD d = true → Is K H d x → Dp K H x (datD d)
  | .v y, x, g, h => by
    obtain rfl : x = y := h
    exact dp_v g
  | .N ds, x, g, h => by
    obtain ⟨p, vs, rfl, hp, hE⟩ := h
    exact .lst (sq_of hp) (dpAll_of g hE)
  | .U ds, x, g, h => by
    obtain ⟨p, vs, rfl, hp, hE⟩ := h
    exact .tup hp (dpAll_of g hE)
  | .D, _, g, _ => by cases g
  | .P _, _, g, _ => by cases g
  | .l _, _, g, _ => by cases g
  | .n _, _, g, _ => by cases g
  | .u _, _, g, _ => by cases g
  | .L _, _, g, _ => by cases g
theorem dpAll_of : ∀ {ds : List Dd} {xs : List V}, goodL ds = true → IsE K H ds xs → DpAll K H xs (datL ds)
  | [], xs, _, h => by
    rw [show xs = [] from h]
    exact .nil
  | d :: r, xs, g, h => by
    obtain ⟨x, rs, rfl, a, b⟩ := h
    have g2 : (goodD d && goodL r) = true := g
    rw [Bool.and_eq_true] at g2
    exact .cons (dp_of g2.1 a) (dpAll_of g2.2 b)
end
inductive Th where
  | t (l : List Nat)
  | c (d : Dd)
  | k (ks : List (Key × V))
  | o
def ThOk : Th → Prop
  | .t l => l.length ≤ 1000
  | .c d => goodD d = true ∧ (tyN d ≠ "?" ∧ tyN d ≠ "str") ∧ PyData.canLay0 (datD d) = true ∧ PyData.depth (datD d) ≤ 8
  | .k ks => ∀ p ∈ ks, valV ks p.1 = some p.2 ∧ flatB p.2 = true
  | .o => True
def thD (C : Addr) : Th → Dd
  | .t l => .s (S l)
  | .c d => d
  | .k ks => .P ⟨fun H x => ∃ a, x = .ref a ∧ H a = some (.dK ks), by rintro H H' x e ⟨a, rfl, h⟩; exact ⟨a, rfl, e a _ h⟩⟩
  | .o => .P ⟨fun H x => ∃ a dx fs, x = .ref a ∧ H a = some (.ins C dx fs), by rintro H H' x e ⟨a, dx, fs, rfl, h⟩; exact ⟨a, dx, fs, rfl, e a _ h⟩⟩
/-- what isinstance reads of the class C -/
structure ObTy (K : PySem.W.Frag) (C : Addr) : Prop where
  cl : Cls K C
  fc : PySem.W.findIn K (.ref C) "__class__" = some (some (.builtin "object.__class__"))
  sp : PySem.W.specialIn K (.builtin "object.__class__") "__get__" = some (some (.builtin "getset_descriptor.__get__"))
  tk : PySem.W.takesIn K (.builtin "object.__class__") = some true
  mr : PySem.W.mroIn K C (.type "object") = some true
  no : PySem.W.kitOne K (.ref C) (.type "str") = some false
def isT : Th → Bool
  | .t _ => true
  | _ => false
def txT : Th → List Nat
  | .t l => l
  | _ => []
theorem rc_isiTh {C : Addr} (O : ObTy K C) : ∀ {th : Th}, ThOk th → Rc K (rIsi K) [thD C th, .v (.ty "str")] (.b (isT th))
  | .t l, _ => rc_isi_str (b := true) (by decide +kernel)
  | .c d, h => rc_isiD h.2.1.1 (by
    have h2 := h.2.1.2
    show kitB (tyN d) "str" = some false
    rcases tyN_cases h.2.1.1 with e | e | e | e | e | e | e
    · rw [e]; decide +kernel
    · rw [e]; decide +kernel
    · rw [e]; decide +kernel
    · exact absurd e h2
    · rw [e]; decide +kernel
    · rw [e]; decide +kernel
    · rw [e]; decide +kernel)
  | .k ks, _ => rc_isi (.type "dict") (fun H1 v z => by obtain ⟨a, rfl, h⟩ := z; exact .base (.dK h)) (b := false) (kit_ty (by decide +kernel))
  | .o, _ => rc_isi (.ref C) (fun H1 v z => by obtain ⟨a, dx, fs, rfl, h⟩ := z; exact .base (.ins h O.cl O.fc O.sp O.tk O.mr)) O.no
theorem is_text {C : Addr} : ∀ {th : Th} {x : V}, isT th = true → Is K H (thD C th) x → x = .str (S (txT th))
  | .t l, _, _, h => h
  | .c _, _, h, _ => by cases h
  | .k _, _, h, _ => by cases h
  | .o, _, h, _ => by cases h

/-! ### == of lists of such things -/
def EqI (K : PySem.W.Frag) (H : Hp) (x y : V) : Prop := (x = y ∧ flatB x = true) ∨ (∃ d, Dp K H x d ∧ Dp K H y d ∧ PyData.canLay0 d = true ∧ PyData.depth d ≤ 8) ∨ EqV K H 3 x y
def rEqZ (K : PySem.W.Frag) : R2 := fun x y H Q => ∃ a b xs ys, x = .ref a ∧ y = .ref b ∧ SqL K H a xs ∧ SqL K H b ys ∧ Paired (EqI K H) xs ys ∧ Q (.bl true) H
theorem op_eqZ {X : Cx} (hu : X.A.units + 64 < cLine) : OpR X (compareOp .Eq) (rEqZ X.K) := by
  rintro pins s σ H x y v u Q I rx ry ⟨a, b, xs, ys, rfl, rfl, ha, hb, hp, q⟩
  have u1 : X.A.in1.units = X.A.units + 1 := rfl
  refine L2.eqR_run I (F := EqI X.K H) (by omega) ?_ (.inl ⟨a, b, xs, ys, rfl, rfl, ha, hb, hp⟩) rx ry X.xe (EP X pins σ Q) ⟨.bl true, H, I, rfl, q⟩
  rintro x y v u (⟨rfl, f⟩ | ⟨d, h1, h2, c, dp⟩ | h) r1 r2
  · exact (eqAt_same r1 r2 f).eqP
  · obtain ⟨as, q1⟩ := Dp.reads I d x v h1 r1
    obtain ⟨bs, q2⟩ := Dp.reads I d y u h2 r2
    have e := SeqAt.eqAt_reads d d X.A.in1 s v u as bs q1 q2 c c (by omega)
    rw [SeqAt.eqv_refl d c] at e
    exact e.eqP
  · exact L2.eqV_run I 3 X.A.in1 (by omega) x y v u h r1 r2
theorem op_eqZ_k {X : Cx} {K : PySem.W.Frag} (hu : X.A.units + 64 < cLine) (h : X.K = K := by rfl) : OpR X (compareOp .Eq) (rEqZ K) := h ▸ op_eqZ hu
theorem eqI_th {C : Addr} : ∀ {th : Th} {x y : V}, ThOk th → th ≠ .o → Is K H (thD C th) x → Is K H (thD C th) y → EqI K H x y
  | .t l, x, y, _, _, h1, h2 => by
    obtain rfl : x = V.str (S l) := h1
    obtain rfl : y = V.str (S l) := h2
    exact .inl ⟨rfl, rfl⟩
  | .c d, x, y, h, _, h1, h2 => .inr (.inl ⟨datD d, dp_of h.1 h1, dp_of h.1 h2, h.2.2.1, h.2.2.2⟩)
  | .k ks, x, y, h, _, ⟨a, ea, h1⟩, ⟨b, eb, h2⟩ => by
    subst ea
    subst eb
    refine .inr (.inr ?_)
    rw [L2.EqV.eq_2]
    refine .inr (.inr (.inr ⟨a, b, ks, ks, rfl, rfl, h1, h2, rfl, fun p hp => ⟨p.2, (h p hp).1, ?_⟩⟩))
    rw [L2.EqV.eq_2]
    exact .inl ⟨rfl, (h p hp).2⟩
  | .o, _, _, _, n, _, _ => absurd rfl n
theorem paired_th {C : Addr} : ∀ {ths : List Th} {xs ys : List V}, (∀ th ∈ ths, ThOk th ∧ th ≠ .o) → IsE K H (ths.map (thD C)) xs → IsE K H (ths.map (thD C)) ys → Paired (EqI K H) xs ys
  | [], xs, ys, _, h1, h2 => by
    rw [show xs = [] from h1, show ys = [] from h2]
    exact .nil
  | th :: r, xs, ys, h, h1, h2 => by
    obtain ⟨x, xr, rfl, a1, b1⟩ := h1
    obtain ⟨y, yr, rfl, a2, b2⟩ := h2
    have q := h th (List.mem_cons_self ..)
    exact .cons (eqI_th q.1 q.2 a1 a2) (paired_th (fun t ht => h t (List.mem_cons_of_mem _ ht)) b1 b2)
theorem ro_eqZ {C : Addr} {ths : List Th} (h : ∀ th ∈ ths, ThOk th ∧ th ≠ .o) : Ro K (rEqZ K) (.L (ths.map (thD C))) (.N (ths.map (thD C))) (.b true) := by
  rintro _ _ H1 ⟨p, vs, rfl, hp, hE⟩ ⟨p', vs', rfl, hp', hE'⟩ Q q
  exact ⟨p, p', vs, vs', rfl, rfl, hp, sq_of hp', paired_th h hE hE', q _ H1 (Ex.refl H1) rfl⟩
end
section
variable {K : PySem.W.Frag} {σ : L2.St} {H G A : Hp} {te ta tb tc ti to : TE} {tr : TA} {d d1 d2 : Dd} {ds : List Dd} {x y : V} {C : Addr}
/-! ### making them -/
theorem ef_d0 : Ef K tDNewK σ G (thD C (.k [])) := fun G1 A e1 e2 Q q p hp => q _ (upd G1 p (.dK [])) _ (Step.new e2 hp) ⟨p, rfl, upd_same⟩
theorem step_new2 {G A A2 : Hp} {p : Addr} {o o' : HO} (e : Ex G A) (hp : A p = none) (e2 : Ex (upd A p o) A2) : Step G A (upd G p o') (upd A2 p o') := by
  have hg := ex_out e hp
  have eA : Ex A A2 := (Ex.new hp).trans e2
  refine ⟨Ex.new hg, ex_both (e.trans eA) hg, eA.mut hp, fun b h h2 => ?_⟩
  have hb : b ≠ p := fun z => h (by rw [z]; exact hp)
  rw [upd_ne hb]
  exact h2
theorem ef_d1 {a : Str} (h1 : Er K ta σ G (.s a)) (h2 : Er K tb σ G (.v y)) : Ef K (tDisp [(ta, tb)]) σ G (thD C (.k [(.inr a, y)])) := fun G1 A e1 e2 Q q p hp =>
  h1 _ ((e1.trans e2).trans (Ex.new hp)) _ fun v2 H2 e3 z2 => h2 _ (((e1.trans e2).trans (Ex.new hp)).trans e3) _ fun v3 H3 e4 z3 => by
    obtain rfl : v2 = V.str a := z2
    obtain rfl : v3 = y := z3
    exact ⟨(e3.trans e4) p _ upd_same, [(.inr a, v3)], rfl, by simp, q _ _ _ (step_new2 e2 hp (e3.trans e4)) ⟨p, rfl, upd_same⟩⟩
theorem mergeK2 {a b : Str} {x y : V} (h : a ≠ b) : mergeK [] [(.inr a, x), (.inr b, y)] = [(.inr a, x), (.inr b, y)] := by
  have e : ¬ ((Sum.inr a : Key) = .inr b) := fun z => h (Sum.inr.inj z)
  simp [mergeK, putK, e]
theorem ef_d2 {a b : Str} (h : a ≠ b) (h1 : Er K ta σ G (.s a)) (h2 : Er K tb σ G (.v x)) (h3 : Er K tc σ G (.s b)) (h4 : Er K to σ G (.v y)) : Ef K (tDisp [(ta, tb), (tc, to)]) σ G (thD C (.k [(.inr a, x), (.inr b, y)])) := fun G1 A e1 e2 Q q p hp =>
  h1 _ ((e1.trans e2).trans (Ex.new hp)) _ fun v2 H2 e3 z2 => h2 _ (((e1.trans e2).trans (Ex.new hp)).trans e3) _ fun v3 H3 e4 z3 => h3 _ ((((e1.trans e2).trans (Ex.new hp)).trans e3).trans e4) _ fun v4 H4 e5 z4 => h4 _ (((((e1.trans e2).trans (Ex.new hp)).trans e3).trans e4).trans e5) _ fun v5 H5 e6 z5 => by
    obtain rfl : v2 = V.str a := z2
    obtain rfl : v3 = x := z3
    obtain rfl : v4 = V.str b := z4
    obtain rfl : v5 = y := z5
    have eE := ((e3.trans e4).trans e5).trans e6
    exact ⟨eE p _ upd_same, [(.inr a, v3), (.inr b, v5)], rfl, by simp, q _ _ _ (step_new2 e2 hp eE) ⟨p, rfl, by rw [mergeK2 h]; exact upd_same⟩⟩
/-- [.., .., ..][i] -/
theorem ef_at {i : Int} (ths : List Th) (h : Efa K tr σ G (ths.map (thD C))) (hi : Er K ti σ G (.i i)) (h0 : 0 ≤ i) (h1 : i < ths.length) (hz : ths.length ≤ 1000) : Ef K (tOp (rIxL K) (tLst tr) ti) σ G (thD C (ths.getD i.toNat .o)) := by
  have e : ((i.toNat : Nat) : Int) = i := Int.toNat_of_nonneg h0
  have hlt : i.toNat < ths.length := by omega
  refine ef_op (ef_N h (by rw [List.length_map]; omega)) (ef_flat hi) ?_
  rw [← e]
  refine rf_ixN ?_
  rw [List.getElem?_map, Int.toNat_natCast, List.getD_eq_getElem?_getD, List.getElem?_eq_getElem hlt]
  rfl
theorem mem_getD {α : Type} {l : List α} {i : Nat} {z : α} (h : i < l.length) : l.getD i z ∈ l := by
  rw [List.getD_eq_getElem?_getD, List.getElem?_eq_getElem h]
  exact List.getElem_mem h
end
end Mi

set_option maxHeartbeats 2000000
namespace Mi
open PySem PySem.Spec PyProof.Rows L2 Evl
theorem cr_any_k {X : Cx} {K : PySem.W.Frag} (h : X.K = K := by rfl) (hc : X.calm = true := by rfl) : CallR X (.builtin "any") (rAny K) := h ▸ cr_any hc
section
variable {K : PySem.W.Frag} {σ : L2.St} {G A H H' : Hp} {te ta tb tc : TE} {t u : TT} {tr : TA} {x y : V}
theorem rc_anyB {bs : List Bool} : Rc K (rAny K) [.l (bs.map V.bl)] (.b (bs.any id)) := by
  rintro _ H1 (_ | ⟨⟨p, rfl, hp⟩, _ | _⟩) Q q
  exact ⟨p, bs, rfl, hp, q _ H1 (Ex.refl H1) rfl⟩
theorem rc_anyBN {bs : List Bool} : Rc K (rAny K) [.n (bs.map V.bl)] (.b (bs.any id)) := fun vs H1 h Q q => by
  cases h with
  | cons a b => exact rc_anyB _ H1 (.cons a.n2l b) Q q
/-- a list or a tuple of cells -/
def csD (b : Bool) (cs : List Nat) : Dd := if b = true then .U (cs.map fun c : Nat => Dd.i (c : Int)) else .L (cs.map fun c : Nat => Dd.i (c : Int))
theorem if_cs {b : Bool} {cs : List Nat} {i : Nat} (hx : σ[i]? = some (some x)) (h : Is K G (csD b cs) x) : Itf K (iSeqV K i) σ G (cs.map fun c : Nat => Dd.i (c : Int)) := by
  cases b with
  | true => exact if_seqU hx h
  | false => exact if_seqL hx h
/-- [test of cell for cell in cells], the cells in slot i, the cell in slot j -/
theorem er_lcB {b : Bool} {cs : List Nat} {i j : Nat} (g : Nat → Bool) (hx : σ[i]? = some (some x)) (h : Is K H (csD b cs) x) (hz : cs.length ≤ 1000) (hw : ∀ v, wipe ((wipe σ [j]).set j (some v)) [j] = wipe σ [j])
    (he : ∀ c ∈ cs, ∀ H1, Ex H H1 → Er K te ((wipe σ [j]).set j (some (.int (c : Int)))) H1 (.b (g c))) : Er K (tLc (iSeqV K i) (gName j) tYes te [j]) σ H (.n ((cs.map g).map V.bl)) :=
  Er.as (Ef.er (Ef.to (ef_lc (K := K) (its := cs) (inj := fun c : Nat => Dd.i (c : Int)) (vs := [j]) (fun _ => true) (fun c => Dd.b (g c)) (if_cs hx h) (by omega) (fun k c v G' A' e1 e2 hi hv => by
    obtain rfl : v = V.int (c : Int) := hv
    exact ⟨(wipe σ [j]).set j (some (.int (c : Int))), fun Q q => q, hw _, fun H2 e Q q => q H2 (Ex.refl _), fun _ => ef_flat (he c (List.mem_of_getElem? hi) G' e1)⟩)) (by rw [filt_true]))) fun Hx v z => by
      refine Is.N2n (xs := (cs.map g).map V.bl) ?_
      rw [List.map_map, List.map_map]
      exact z
end
end Mi

set_option maxHeartbeats 2000000
namespace Mi
open PySem PySem.Spec PyProof.Rows L2 Evl
/-! ### x in obj, the object's class has its own __contains__ -/
def rInO (C : Addr) (sp : Sp) (neg : Bool) : R2 := fun x y H Q => ∃ a dx fs, y = .ref a ∧ H a = some (.ins C dx fs) ∧ sp [y, x] H (fun v H' => ∃ b, v = .bl b ∧ Q (.bl (if neg = true then !b else b)) H') E0
theorem in_own {X : Cx} {k : Nat} {f C : Addr} {fd : FuncData} {sp : Sp} {p1 p2 : Str} (hi : PySem.W.findIn X.K (.ref C) "__contains__" = some (some (.ref f))) (hfn : PySem.W.isFn X.K (.ref f) = true) (F : FnOk X.prog X.w X.K X.mg X.base CX0 k f fd [p1, p2] sp) (hb : Binds X.K fd [p1, p2] []) (hr : Room k X.A)
    {pins : List (Addr × Obj)} {s : Shared} {σ : L2.St} {H : Hp} {x : V} {a dx : Addr} {fs : List (Str × V)} {v : Value} {Qb : Bool → Hp → Prop} {R : Bool → Shared → Prop} (I : Inv X pins σ H s) (rx : RelV x v) (hx : H a = some (.ins C dx fs))
    (h : sp [.ref a, x] H (fun v H' => ∃ b, v = .bl b ∧ Qb b H') E0) (hR : ∀ b s' H', Inv X pins σ H' s' → Qb b H' → R b s') : wpAny (PySem.model X.prog X.w) X.A (PySem.contains (.ref a) v) R X.xe s := by
  obtain ⟨mA, J, _⟩ := ins_get I.hok hx
  obtain ⟨od, J, _⟩ := J.look
  obtain ⟨m, hF⟩ := I.fr
  refine PySem.W.contains_K hF I.ok.mod.kin J hi hfn ?_
  have bd := hb s [.ref a, v] (I.kIn) rfl
  refine wpAny_call (codeAny_mono (F.run X.A X.stack s H ⟨[.ref a, v], []⟩ [.ref a, v] [.ref a, x] _ E0 hr I.env0 bd (.cons rfl (.cons rx .nil)) h) fun r s' hq => ?_)
  cases r with
  | error e => exact pass0 pins σ H s e s' I hq
  | ok fl =>
    cases fl with
    | ret u =>
      obtain ⟨w, H', I2, rv, b, rfl, q⟩ := I.after hq
      have eu : u = .bool b := rv
      subst eu
      show wpAny _ _ (truthy (Value.bool b)) R _ s'
      rw [show truthy (Value.bool b) = pure b from rfl]
      exact wpAny_pure (hR b s' H' I2 q)
    | next => exact False.elim hq
    | brk => exact False.elim hq
    | cont => exact False.elim hq
theorem op_inO {X : Cx} {k : Nat} {f C : Addr} {fd : FuncData} {sp : Sp} {p1 p2 : Str} (hi : PySem.W.findIn X.K (.ref C) "__contains__" = some (some (.ref f))) (hfn : PySem.W.isFn X.K (.ref f) = true) (F : FnOk X.prog X.w X.K X.mg X.base CX0 k f fd [p1, p2] sp) (hb : Binds X.K fd [p1, p2] []) (hr : Room k X.A) : OpR X (compareOp .In) (rInO C sp false) := by
  rintro pins s σ H x y v u Q I rx ry ⟨a, dx, fs, rfl, hx, h⟩
  have eu : u = .ref a := ry
  subst eu
  show wpAny (PySem.model X.prog X.w) X.A (PySem.contains (.ref a) v >>= fun b => (pure (Value.bool b) : Sem Value)) (EP X pins σ Q) X.xe s
  refine wpAny_bind (in_own hi hfn F hb hr I rx hx (Qb := fun b H' => Q (.bl b) H') h fun b s' H' J q => ?_)
  exact wpAny_pure ⟨.bl b, H', J, rfl, q⟩
theorem op_notInO {X : Cx} {k : Nat} {f C : Addr} {fd : FuncData} {sp : Sp} {p1 p2 : Str} (hi : PySem.W.findIn X.K (.ref C) "__contains__" = some (some (.ref f))) (hfn : PySem.W.isFn X.K (.ref f) = true) (F : FnOk X.prog X.w X.K X.mg X.base CX0 k f fd [p1, p2] sp) (hb : Binds X.K fd [p1, p2] []) (hr : Room k X.A) : OpR X (compareOp .NotIn) (rInO C sp true) := by
  rintro pins s σ H x y v u Q I rx ry ⟨a, dx, fs, rfl, hx, h⟩
  have eu : u = .ref a := ry
  subst eu
  show wpAny (PySem.model X.prog X.w) X.A (PySem.contains (.ref a) v >>= fun b => (pure (Value.bool !b) : Sem Value)) (EP X pins σ Q) X.xe s
  refine wpAny_bind (in_own hi hfn F hb hr I rx hx (Qb := fun b H' => Q (.bl !b) H') h fun b s' H' J q => ?_)
  exact wpAny_pure ⟨.bl !b, H', J, rfl, q⟩
end Mi
namespace Mi
open PySem PySem.Spec PyProof.Rows L2 Evl
/-! ### text in dict, the dict one of ours -/
def rInK (neg : Bool) : R2 := fun x y H Q => ∃ p z kvs, x = .str z ∧ y = .ref p ∧ H p = some (.dK kvs) ∧ Q (.bl (if neg = true then !(valV kvs (Sum.inr z)).isSome else (valV kvs (Sum.inr z)).isSome)) H
theorem relO_some {a : Option V} {b : Option Value} (h : RelO a b) : b.isSome = a.isSome := by
  cases a with
  | none =>
    cases b with
    | none => rfl
    | some v => exact h.elim
  | some x =>
    cases b with
    | none => exact h.elim
    | some v => rfl
theorem op_inK {X : Cx} : OpR X (compareOp .In) (rInK false) := by
  rintro pins s σ H x y v u Q I rx ry ⟨p, z, kvs, rfl, rfl, hp, q⟩
  obtain ⟨t, rfl⟩ := rx
  have eu : u = .ref p := ry
  subst eu
  obtain ⟨_, ya, va, ra, da⟩ := I.hok p (.dK kvs) hp
  refine PySem.wpAny_in_of (mixKind_str _ _ z t) ya da.mapOf ⟨.bl (valV kvs (Sum.inr z)).isSome, H, I.tok _, ?_, q⟩
  rw [relO_some (ra.val (Sum.inr z))]
  rfl
theorem op_notInK {X : Cx} : OpR X (compareOp .NotIn) (rInK true) := by
  rintro pins s σ H x y v u Q I rx ry ⟨p, z, kvs, rfl, rfl, hp, q⟩
  obtain ⟨t, rfl⟩ := rx
  have eu : u = .ref p := ry
  subst eu
  obtain ⟨_, ya, va, ra, da⟩ := I.hok p (.dK kvs) hp
  refine PySem.wpAny_notIn_of (mixKind_str _ _ z t) ya da.mapOf ⟨.bl (!(valV kvs (Sum.inr z)).isSome), H, I.tok _, ?_, q⟩
  rw [relO_some (ra.val (Sum.inr z))]
  rfl
end Mi
namespace Mi
open PySem PySem.Spec PyProof.Rows L2 Evl
/-! ### dict[text], the dict one of ours and the text a key of it -/
def rIxK : R2 := fun x y H Q => ∃ p z kvs v, x = .ref p ∧ y = .str z ∧ H p = some (.dK kvs) ∧ valV kvs (Sum.inr z) = some v ∧ Q v H
theorem ix_dK {X : Cx} : IxR X rIxK := by
  rintro value slice pins s σ H x y v u Q I rx ry ⟨p, z, kvs, w, rfl, rfl, hp, hv, q⟩ hs
  obtain ⟨t, rfl⟩ := ry
  have eu : v = .ref p := rx
  subst eu
  obtain ⟨_, ya, va, ra, da⟩ := I.hok p (.dK kvs) hp
  have r := ra.val (Sum.inr z)
  rw [hv] at r
  cases hw : valueAt va (Sum.inr z) with
  | none => rw [hw] at r; exact r.elim
  | some w' =>
    rw [hw] at r
    exact subscriptTail_builtinR da.typeIs slot_dict_getitem.lookup (wpAny_getItem_of (mixKind_str _ _ z t) da.mapOf hw ⟨rfl, ⟨w, H, I.tok _, r, q⟩⟩) hs
section
variable {K : PySem.W.Frag} {H : Hp} {kvs : List (Key × V)} {z : Str} {v : V}
/-- a dict of ours with these items -/
def dicD (kvs : List (Key × V)) : Dd := .P ⟨fun H x => ∃ a, x = .ref a ∧ H a = some (.dK kvs), by rintro H H' x e ⟨a, rfl, h⟩; exact ⟨a, rfl, e a _ h⟩⟩
theorem ro_inK : Ro K (rInK false) (.s z) (dicD kvs) (.b (valV kvs (Sum.inr z)).isSome) := by
  rintro _ _ H1 rfl ⟨p, rfl, hp⟩ Q q
  exact ⟨p, z, kvs, rfl, rfl, hp, q _ H1 (Ex.refl H1) rfl⟩
theorem ro_notInK : Ro K (rInK true) (.s z) (dicD kvs) (.b (!(valV kvs (Sum.inr z)).isSome)) := by
  rintro _ _ H1 rfl ⟨p, rfl, hp⟩ Q q
  exact ⟨p, z, kvs, rfl, rfl, hp, q _ H1 (Ex.refl H1) rfl⟩
theorem ro_ixK (hv : valV kvs (Sum.inr z) = some v) : Ro K rIxK (dicD kvs) (.s z) (.v v) := by
  rintro _ _ H1 ⟨p, rfl, hp⟩ rfl Q q
  exact ⟨p, z, kvs, v, rfl, rfl, hp, hv, q _ H1 (Ex.refl H1) rfl⟩
end
end Mi
namespace Mi
open PySem PySem.Spec PyProof.Rows L2 Evl
/-! ### a dict comprehension with different keys: what it holds -/
theorem putK_new {kvs : List (Key × V)} {k : Key} {v : V} (h : ∀ p ∈ kvs, p.1 ≠ k) : putK kvs k v = kvs ++ [(k, v)] := by
  unfold putK
  rw [if_neg]
  intro e
  obtain ⟨p, hp, hk⟩ := List.any_eq_true.mp e
  exact h p hp (of_decide_eq_true hk)
section
variable {K : PySem.W.Frag} {σ : L2.St} {G A : Hp} {te tk tv : TE} {t : TT} {wi : TI} {g : TG} {d : Dd}
theorem ef_dcC {α : Type} {its : List α} {inj : α → Dd} {vs : List Nat} (kf : α → Key) (vf : α → V) (hn : (its.map kf).Nodup) (h : Itf K wi σ G (its.map inj)) (hz : its.length ≤ 50000)
    (hs : ∀ (i : Nat) x v G' A', Ex G G' → Ex G' A' → its[i]? = some x → Is K G' (inj x) v → ∃ σ2, (∀ Q : L2.St → Hp → Prop, Q σ2 A' → g v (wipe σ vs) A' Q) ∧ wipe σ2 vs = wipe σ vs ∧ Er K tk σ2 A' (.v (kV (kf x))) ∧ Er K tv σ2 A' (.v (vf x))) :
    Ef K (tDc wi g tYes tk tv vs) σ G (dicD (its.map fun x => (kf x, vf x))) := fun G0 A0 e0 ea0 Q q =>
  h G0 A0 e0 ea0 _ fun J G1 A1 s1 hw => fun Dl hD => by
    have gD := ex_out s1.v hD
    refine ⟨fun i m A' => m = its.length - i ∧ i ≤ its.length ∧ ∃ G', Step G1 A1 G' A' ∧ G' Dl = none ∧ A' Dl = some (.dK ((its.take i).map fun x => (kf x, vf x))), ⟨_, rfl, Nat.zero_le _, G1, .on s1.v (Ex.new hD), gD, upd_same⟩, ?_⟩
    rintro i m A' ⟨rfl, hi, G', st, hg, hu⟩
    by_cases hlt : i < its.length
    · have hx : its[i]? = some its[i] := List.getElem?_eq_getElem hlt
      have hd' : (its.map inj)[i]? = some (inj its[i]) := by rw [List.getElem?_map, hx]; rfl
      obtain ⟨go, yl⟩ := (hw i G' A' st.g st.v).1 _ hd'
      refine .inr ⟨go, fun A3 => ∃ G3, Step G1 A1 G3 A3 ∧ G3 Dl = none ∧ A3 Dl = some (.dK ((its.take (i + 1)).map fun x => (kf x, vf x))), fun A3 p3 => ⟨its.length - (i + 1), by omega, rfl, hlt, p3⟩, fun v A'' y => ?_⟩
      obtain ⟨G2, s2, z⟩ := yl v A'' y
      have uN : A' Dl ≠ none := by rw [hu]; simp
      have g2 := s2.f Dl uN hg
      have u2 := s2.a Dl _ hu
      obtain ⟨σ2, hgt, hwp, htk, htv⟩ := hs i _ v G2 A'' ((e0.trans s1.g).trans (st.g.trans s2.g)) s2.v hx z
      refine hgt _ ⟨hwp, ?_⟩
      unfold tYes
      dsimp only
      rw [if_pos rfl]
      refine htk A'' (Ex.refl _) _ fun w A3 e3 zw => ?_
      refine htv A3 e3 _ fun w2 A4 e4 zw2 => ?_
      have s4 := (st.trans s2).trans (Step.on s2.v (e3.trans e4))
      refine ⟨_, kf its[i], zw, e4 Dl _ (e3 Dl _ u2), sz_lt (by rw [List.length_map, List.length_take]; omega), G2, s4.grow hD g2, g2, ?_⟩
      obtain rfl : w2 = vf its[i] := zw2
      rw [upd_same, map_take_next hx, putK_new]
      intro p hp
      obtain ⟨x, hxm, rfl⟩ := List.mem_map.mp hp
      obtain ⟨j, hj, rfl⟩ := List.getElem_of_mem hxm
      rw [List.length_take] at hj
      rw [List.getElem_take]
      have hq := List.pairwise_iff_getElem.mp hn j i (by rw [List.length_map]; omega) (by rw [List.length_map]; exact hlt) (by omega)
      rw [List.getElem_map, List.getElem_map] at hq
      exact hq
    · have e : i = its.length := by omega
      subst e
      rw [List.take_length] at hu
      refine .inl ⟨(hw _ G' A' st.g st.v).2 (by rw [List.length_map]), q _ (upd G' Dl (.dK (its.map fun x => (kf x, vf x)))) A' (s1.trans (st.seal hD hg hu)) ⟨Dl, rfl, upd_same⟩⟩
end
/-! ### a stock whose dict is known -/
def stK (sts : List (List Nat × List Nat)) : List (Key × V) := sts.map fun p => (Sum.inr (S p.1), V.str (S p.2))
theorem stK_get {sts : List (List Nat × List Nat)} {n : List Nat} : valV (stK sts) (Sum.inr (S n)) = (sts.find? fun p => decide (p.1 = n)).map fun p => V.str (S p.2) := by
  unfold valV stK
  rw [List.find?_map, Option.map_map]
  have : ((fun kv : Key × V => decide (kv.1 = Sum.inr (S n))) ∘ fun p : List Nat × List Nat => ((Sum.inr (S p.1), V.str (S p.2)) : Key × V)) = fun p : List Nat × List Nat => decide (p.1 = n) := by
    funext p
    show decide ((Sum.inr (S p.1) : Key) = Sum.inr (S n)) = decide (p.1 = n)
    by_cases h : p.1 = n
    · rw [h, decide_eq_true rfl, decide_eq_true rfl]
    · have h2 : ¬ ((Sum.inr (S p.1) : Key) = Sum.inr (S n)) := fun e => h (S_inj (Sum.inr.inj e))
      rw [decide_eq_false h, decide_eq_false h2]
  rw [this]
  rfl
def stockC (K : PySem.W.Frag) (C : Addr) (n : Int) (sts : List (List Nat × List Nat)) : Dd := .P ⟨fun H y => ∃ x dx ps dd, y = .ref x ∧ H x = some (.ins C dx (stFlds n ps dd)) ∧ Is K H (.U (prD sts)) (.ref ps) ∧ H dd = some (.dK (stK sts)), by
  rintro H H' y e ⟨x, dx, ps, dd, rfl, h1, h2, h3⟩
  exact ⟨x, dx, ps, dd, rfl, e x _ h1, h2.mono e, e dd _ h3⟩⟩
theorem stockC_D {K : PySem.W.Frag} {C : Addr} {n : Int} {sts : List (List Nat × List Nat)} {H : Hp} {v : V} (h : Is K H (stockC K C n sts) v) : Is K H (stockD K C n sts) v := by
  obtain ⟨x, dx, ps, dd, rfl, h1, h2, h3⟩ := h
  exact ⟨x, dx, ps, dd, _, rfl, h1, h2, h3⟩
theorem stFlds_dict (n : Int) (ps dd : Addr) : (stFlds n ps dd).lookup ("_stamp_of" : Str) = some (.ref dd) := by
  unfold stFlds
  rw [lookup_putF, if_pos rfl]
/-- stock._stamp_of -/
theorem er_stampOf {K : PySem.W.Frag} {σ : L2.St} {H : Hp} {te : TE} {C : Addr} {n : Int} {sts : List (List Nat × List Nat)} (cl : Cls K C) (na : NoAttr K C "_stamp_of") (h : Er K te σ H (stockC K C n sts)) : Er K (tFld K te "_stamp_of") σ H (dicD (stK sts)) := fun H1 e Q q =>
  h H1 e _ fun v H2 e2 ⟨x, dx, ps, dd, ev, h1, h2, h3⟩ => by
    subst ev
    exact ⟨x, C, dx, _, .ref dd, rfl, h1, cl, na, stFlds_dict n ps dd, q _ H2 e2 ⟨dd, rfl, h3⟩⟩
end Mi

set_option maxHeartbeats 2000000
namespace Mi
open PySem PySem.Spec PyProof.Rows L2 Evl HT

/-! ### tuple[::-1] -/
theorem fm_congr {α β : Type} {f g : α → Option β} : ∀ {l : List α}, (∀ x ∈ l, f x = g x) → l.filterMap f = l.filterMap g
  | [], _ => rfl
  | a :: l, h => by
    rw [List.filterMap_cons, List.filterMap_cons, h a (List.mem_cons_self ..), fm_congr fun x hx => h x (List.mem_cons_of_mem _ hx)]
theorem rev_pick (xs : Array Value) : ((List.range xs.size).filterMap fun (m : Nat) => xs[((xs.size : Int) - 1 + (m : Int) * (-1)).toNat]?).toArray = xs.toList.reverse.toArray := by
  have h := PySem.W.krv_pick xs
  unfold slicePick at h
  rw [PySem.W.krv_bounds] at h
  have h : ((sliceRange ((xs.size : Int) - 1) (-1) (-1)).filterMap (xs[·]?)).toArray = xs.toList.reverse.toArray := h
  rw [PySem.W.krv_sliceRange, List.filterMap_map] at h
  rw [← h]
  congr 1
  apply fm_congr
  intro m hm
  have := List.mem_range.mp hm
  have e : ((xs.size : Int) - 1 + (m : Int) * (-1)).toNat = xs.size - 1 - m := by omega
  show xs[((xs.size : Int) - 1 + (m : Int) * (-1)).toNat]? = xs[xs.size - 1 - m]?
  rw [e]
theorem rev_adj (n : Nat) : Builtin.Slice.sliceAdjust none none (-1) (n : Int) = ((n : Int) - 1, -1) := rfl
theorem rev_places (n : Nat) : Builtin.Slice.slicePlaces ((n : Int) - 1) (-1) (-1) = n := by
  unfold Builtin.Slice.slicePlaces
  rw [if_neg (by decide)]
  by_cases h : (n : Int) - 1 > -1
  · rw [if_pos h, show (- -1 : Int) = 1 by decide, Int.ediv_one]
    omega
  · rw [if_neg h]
    omega
section
variable {prog : Program} {w : World} {A : Around} {E : Value → Shared → Prop} {s : Shared}
theorem sliceApplied_rev {sl : Addr} {vl vu vs : Value} {n : Nat} {Q : Int × Int × Nat → Shared → Prop} (hs : s.heap.IsSliceOf sl vl vu vs) (pl : IsPart vl none) (pu : IsPart vu none) (ps : IsPart vs (some (-1)))
    (h : Q ((n : Int) - 1, -1, n) s) : wpAny (model prog w) A (Builtin.Slice.sliceApplied (.ref sl) (pure (n : Int))) Q E s := by
  obtain ⟨os, hos, hcs, hds⟩ := id hs
  unfold Builtin.Slice.sliceApplied Builtin.Slice.sliceFields
  refine wpAny_bind (wpAny_bind (wpAny_field hos hds (x := vl) rfl (wpAny_bind (wpAny_field hos hds (x := vu) rfl (wpAny_bind (wpAny_field hos hds (x := vs) rfl (wpAny_pure ?_)))))))
  refine wpAny_bind (slicePart_ ps ?_)
  show wpAny _ _ (if ((-1 : Int) == 0) = true then _ else _) _ _ s
  rw [if_neg (by decide)]
  refine wpAny_bind (slicePart_ pl (wpAny_bind (slicePart_ pu (wpAny_bind (wpAny_pure ?_)))))
  show wpAny _ _ (match Builtin.Slice.sliceAdjust none none (-1) (n : Int) with | (lo, hi) => pure (lo, (-1 : Int), Builtin.Slice.slicePlaces lo hi (-1))) _ _ s
  rw [rev_adj n]
  show wpAny _ _ (pure ((n : Int) - 1, (-1 : Int), Builtin.Slice.slicePlaces ((n : Int) - 1) (-1) (-1))) _ _ s
  rw [rev_places]
  exact wpAny_pure h
theorem getItem_tuple_rev {t sl : Addr} {items : Array Value} {vl vu vs : Value} {Q : Value → Shared → Prop} (ht : IsTup s.heap t items) (hs : s.heap.IsSliceOf sl vl vu vs) (pl : IsPart vl none) (pu : IsPart vu none) (ps : IsPart vs (some (-1)))
    (h : Q (.ref s.heap.objs.size) { s with heap := s.heap.push { cls := .type "tuple", data := .seq items.toList.reverse.toArray } })
    (hsz : items.size ≤ sizeLine) : wpAny (model prog w) A (getItem (.ref t) (.ref sl)) Q E s := by
  have htake : sizeOk (.seq items.toList.reverse.toArray) := by
    show items.toList.reverse.toArray.size ≤ sizeLine
    rw [List.size_toArray, List.length_reverse, Array.length_toList]
    omega
  obtain ⟨os, hos, hcs, hds⟩ := id hs
  have hTs : s.TypeIs (.ref sl) "slice" := ⟨os, hos, hcs⟩
  unfold getItem
  try with_reducible refine wpAny_holding ?_
  first | refine wpAny_bind (wpAny_pure ?_) | skip
  refine wpAny_bind (wpAny_sequenceKey ht.typeIs (by decide) ?_)
  refine wpAny_bind (wpAny_callSpecial?_slot (name := Str.ofString "__getitem__") ht.typeIs PyProof.Rows.slot_tuple_getitem
    (wpAny_call_entry PyProof.Rows.slot_tuple_getitem ht.typeIs entry_tuple_getitem ?_ (args_tuple_getitem _ _)))
  show wpAny _ _ (Builtin.Tuple.tupleItemsOf (.ref t) >>= _) _ _ s
  refine wpAny_bind (tupleItemsOf_ ht ?_)
  refine wpAny_bind (wpAny_typeOf hTs ?_)
  rw [if_pos (by decide)]
  refine wpAny_bind (sliceApplied_rev hs pl pu ps ?_)
  show wpAny _ _ (if (((items.size : Int) - 1) == 0 && (-1 : Int) == 1 && items.size == items.size) = true then _ else _) _ _ s
  rw [show (((items.size : Int) - 1) == 0 && (-1 : Int) == 1 && items.size == items.size) = false by
    rw [show ((-1 : Int) == 1) = false by decide, Bool.and_false, Bool.false_and]]
  rw [if_neg Bool.false_ne_true, rev_pick]
  first
    | exact wpAny_bind (m := Builtin.Tuple.tupleExact _) (wpAny_newObj_type (wpAny_pure ⟨_, rfl, wpAny_pure h⟩) htake)
    | exact wpAny_bind (m := Builtin.Tuple.tupleExact _) (wpAny_newObj_type (wpAny_bind (wpAny_pure (wpAny_pure ⟨_, rfl, wpAny_pure h⟩))) htake)
    | exact wpAny_bind (wpAny_bind (m := Builtin.Tuple.tupleExact _) (wpAny_newObj_type (wpAny_pure (wpAny_pure ⟨_, rfl, wpAny_pure h⟩)) htake))
    | exact wpAny_bind (wpAny_bind (m := Builtin.Tuple.tupleExact _) (wpAny_newObj_type (wpAny_pure ⟨_, rfl, wpAny_pure h⟩) htake))
end
def tRevT (K : PySem.W.Frag) (te : TE) : TE := fun σ H Q => te σ H fun x H1 => ∃ a xs, x = .ref a ∧ SqT K H1 a xs ∧ ∀ p, H1 p = none → Q (.ref p) (upd H1 p (.tup xs.reverse))
theorem pe_revT {X : Cx} {e : Expr} {te : TE} {k : Nat} {p1 p2 p3 pos : Pos} (he : PE X e te) : PE X (.Subscript e (.Slice none none (some (.UnaryOp .USub (.Constant (.int 1) k p1) p2)) p3) pos) (tRevT X.K te) := by
  refine ⟨fun pins s σ H Q I h => ?_⟩
  refine Subscript_ (thn (he.run pins s σ H _ I h) fun v s1 ⟨x, H1, I1, r1, q1⟩ => ?_)
  obtain ⟨a, xs, ex, hx, q⟩ := q1
  subst ex
  cases r1
  have hst : PO X (some (.UnaryOp .USub (.Constant (.int 1) k p1) p2)) (tPart (tUn (rU fun i => .int (-i)) (tC (.int 1)))) := po_some (pe_un un_neg pe_int)
  refine wpAny_Slice (thn (po_none.run pins s1 σ H1 (fun o H2 => o = none ∧ H2 = H1) I1 ⟨rfl, rfl⟩) fun vl s2 ⟨l, H2, I2, pl, el, e2⟩ => ?_)
  subst el e2
  refine thn (po_none.run pins s2 σ H2 (fun o H3 => o = none ∧ H3 = H2) I2 ⟨rfl, rfl⟩) fun vu s3 ⟨u, H3, I3, pu, eu, e3⟩ => ?_
  subst eu e3
  refine thn (hst.run pins s3 σ H3 (fun o H4 => o = some (-1) ∧ H4 = H3) I3 ⟨1, rfl, -1, rfl, rfl, rfl⟩) fun vs s4 ⟨o, H4, I4, ps, eo, e4⟩ => ?_
  subst eo e4
  have I5 : Inv X pins σ H4 { s4 with heap := s4.heap.push { cls := .type "slice", data := .fields #[vl, vu, vs] } } := I4.kept (t' := s4.toks) fun b ob q => Heap.get?_push_of_some _ q
  obtain ⟨its, r, ht, hz⟩ := I5.tuple hx
  have hlen := r.length
  show wpAny (model X.prog X.w) X.A (subscriptTail e (.Slice none none (some (.UnaryOp .USub (.Constant (.int 1) k p1) p2)) p3) (.ref a) (.ref s4.heap.objs.size)) (EP X pins σ Q) X.xe { s4 with heap := s4.heap.push { cls := .type "slice", data := .fields #[vl, vu, vs] } }
  refine tail_any (ops := [.ref a, .ref s4.heap.objs.size]) ht.typeIs (PyProof.Rows.slot_tuple_getitem.lookup) ?_ (by with_unfolding_all rfl)
  refine getItem_tuple_rev ht (Heap.IsSliceOf.new _ vl vu vs) pl pu ps ?_ (by rw [List.size_toArray]; omega)
  refine ⟨.ref _, _, I5.laid (t' := s4.toks) (o := .tup xs.reverse) (fun b ob q => Heap.get?_push_of_some _ q) (Nat.le_refl _) ?_, rfl, q _ (I5.hok.fresh (Nat.le_refl _))⟩
  exact ⟨by rw [List.length_reverse]; exact hz, _, r.reverse, IsTup.new _ _⟩
/-! ### text[::-1] -/
theorem pick_all (x : Array Nat) : (List.range x.size).filterMap (x[·]?) = x.toList := by
  have h1 : (List.range x.size).filterMap (x[·]?) = (List.range x.size).filterMap (some ∘ fun i => x.getD i 0) := by
    apply fm_congr
    intro i hi
    have := List.mem_range.mp hi
    show x[i]? = some (x.getD i 0)
    rw [Array.getElem?_eq_getElem this, Array.getD_eq_getD_getElem?, Array.getElem?_eq_getElem this]
    rfl
  rw [h1, List.filterMap_eq_map]
  apply List.ext_getElem
  · simp
  · intro i h2 h3
    have h4 : i < x.size := by simpa using h3
    simp [h4]
theorem rev_text (x : Str) : ((Builtin.Str.strSliceIndices none none (-1) x.length).filterMap (x.cps[·]?)).toArray = x.cps.toList.reverse.toArray := by
  have h : ((sliceRange ((x.cps.size : Int) - 1) (-1) (-1)).filterMap (x.cps[·]?)).toArray = x.cps.toList.reverse.toArray := by
    rw [PySem.W.krv_sliceRange, PySem.W.krv_range, List.filterMap_reverse, pick_all]
  exact h
def tRevS (te : TE) : TE := fun σ H Q => te σ H fun x H1 => ∃ z, x = .str z ∧ z.length ≤ sizeLine ∧ Q (.str ⟨z.cps.toList.reverse.toArray⟩) H1
theorem pe_revS {X : Cx} {e : Expr} {te : TE} {k : Nat} {p1 p2 p3 pos : Pos} (he : PE X e te) : PE X (.Subscript e (.Slice none none (some (.UnaryOp .USub (.Constant (.int 1) k p1) p2)) p3) pos) (tRevS te) := by
  refine ⟨fun pins s σ H Q I h => ?_⟩
  refine Subscript_ (thn (he.run pins s σ H _ I h) fun v s1 ⟨x, H1, I1, r1, q1⟩ => ?_)
  obtain ⟨z, ex, hz, q⟩ := q1
  subst ex
  obtain ⟨t, rfl⟩ := r1
  have hst : PO X (some (.UnaryOp .USub (.Constant (.int 1) k p1) p2)) (tPart (tUn (rU fun i => .int (-i)) (tC (.int 1)))) := po_some (pe_un un_neg pe_int)
  refine wpAny_Slice (thn (po_none.run pins s1 σ H1 (fun o H2 => o = none ∧ H2 = H1) I1 ⟨rfl, rfl⟩) fun vl s2 ⟨l, H2, I2, pl, el, e2⟩ => ?_)
  subst el e2
  refine thn (po_none.run pins s2 σ H2 (fun o H3 => o = none ∧ H3 = H2) I2 ⟨rfl, rfl⟩) fun vu s3 ⟨u, H3, I3, pu, eu, e3⟩ => ?_
  subst eu e3
  refine thn (hst.run pins s3 σ H3 (fun o H4 => o = some (-1) ∧ H4 = H3) I3 ⟨1, rfl, -1, rfl, rfl, rfl⟩) fun vs s4 ⟨o, H4, I4, ps, eo, e4⟩ => ?_
  subst eo e4
  have I5 : Inv X pins σ H4 { s4 with heap := s4.heap.push { cls := .type "slice", data := .fields #[vl, vu, vs] } } := I4.kept (t' := s4.toks) fun b ob q => Heap.get?_push_of_some _ q
  obtain ⟨l, rfl, hl⟩ := IsPart.raw pl
  obtain ⟨u, rfl, hu⟩ := IsPart.raw pu
  obtain ⟨st, rfl, hst2⟩ := IsPart.raw ps
  show wpAny (model X.prog X.w) X.A (subscriptTail e (.Slice none none (some (.UnaryOp .USub (.Constant (.int 1) k p1) p2)) p3) (.str z t) (.ref s4.heap.objs.size)) (EP X pins σ Q) X.xe { s4 with heap := s4.heap.push { cls := .type "slice", data := .fields #[partValue l, partValue u, partValue st] } }
  refine tail_any (ops := [.str z t, .ref s4.heap.objs.size]) (typeIs_str _ _ _) F.slot_str_getitem.lookup ?_ (by with_unfolding_all rfl)
  obtain ⟨os, hos, hcs, hds⟩ := Heap.IsSliceOf.new s4.heap (partValue l) (partValue u) (partValue st)
  refine wpAny_getItem_str_slice (l := l) (u := u) (st := st) ⟨os, hos, hcs, hds⟩ (by rw [hst2]; rfl) ?_
  unfold sliceMade slicePicked
  rw [hl, hu, hst2]
  show Made.post (if ((-1 : Int) == 1 && (Builtin.Str.strSliceIndices none none (-1) z.length).length == z.length) = true then Made.val (.str z t) else Made.str ⟨((Builtin.Str.strSliceIndices none none (-1) z.length).filterMap (z.cps[·]?)).toArray⟩) (EP X pins σ Q) _
  rw [show ((-1 : Int) == 1 && (Builtin.Str.strSliceIndices none none (-1) z.length).length == z.length) = false by rw [show ((-1 : Int) == 1) = false by decide, Bool.false_and], if_neg Bool.false_ne_true, rev_text]
  refine ⟨?_, .str _, H4, I5.tok _, ⟨_, rfl⟩, q⟩
  show z.cps.toList.reverse.toArray.size ≤ sizeLine
  rw [List.size_toArray, List.length_reverse, Array.length_toList]
  exact hz
section
variable {K : PySem.W.Frag} {σ : L2.St} {G H : Hp} {te : TE}
theorem er_revS {l : List Nat} (h : Er K te σ H (.s (S l))) (hz : l.length ≤ 100000) : Er K (tRevS te) σ H (.s (S l.reverse)) := fun H1 e1 Q q =>
  h H1 e1 _ fun v H2 e2 z => ⟨S l, z, sz_of hz, q _ H2 e2 (by show V.str _ = V.str _; congr 1)⟩
end
section
variable {K : PySem.W.Frag} {σ : L2.St} {G H : Hp} {te : TE} {ds : List Dd} {xs : List V}
theorem isE_rev : ∀ {ds : List Dd} {vs : List V}, IsE K H ds vs → IsE K H ds.reverse vs.reverse
  | [], vs, h => by
    have : vs = [] := h
    subst this
    exact rfl
  | d :: ds, vs, ⟨x, r, e, h1, h2⟩ => by
    subst e
    rw [List.reverse_cons, List.reverse_cons]
    exact isE_app (isE_rev h2) ⟨x, [], rfl, h1, rfl⟩
theorem ef_revT (h : Ef K te σ G (.U ds)) : Ef K (tRevT K te) σ G (.U ds.reverse) := fun G1 A e1 e2 Q q =>
  h G1 A e1 e2 _ fun v G2 A2 s2 ⟨p, vs, ev, hp, hE⟩ => ⟨p, vs, ev, ex_t s2.v hp, fun l hl => q _ (upd G2 l (.tup vs.reverse)) _ (s2.trans (Step.new s2.v hl)) ⟨l, vs.reverse, rfl, st_of upd_same, IsE.mono (Ex.new (ex_out s2.v hl)) (isE_rev hE)⟩⟩
theorem er_revL {xs : List V} (h : Er K te σ H (.l xs)) : Er K (tRevL K te) σ H (.n xs.reverse) := fun H1 e1 Q q =>
  h H1 e1 _ fun v H2 e2 ⟨p, ev, hp⟩ => ⟨p, xs, ev, hp, fun l hl => q _ _ (e2.trans (Ex.new hl)) ⟨l, rfl, upd_same⟩⟩
end
theorem pe_revT_k {X : Cx} {K : PySem.W.Frag} {e : Expr} {te : TE} {k : Nat} {p1 p2 p3 pos : Pos} (he : PE X e te) (hK : X.K = K := by rfl) : PE X (.Subscript e (.Slice none none (some (.UnaryOp .USub (.Constant (.int 1) k p1) p2)) p3) pos) (tRevT K te) := hK ▸ pe_revT he
theorem pe_revL_k {X : Cx} {K : PySem.W.Frag} {e : Expr} {te : TE} {k : Nat} {p1 p2 p3 pos : Pos} (he : PE X e te) (hK : X.K = K := by rfl) : PE X (.Subscript e (.Slice none none (some (.UnaryOp .USub (.Constant (.int 1) k p1) p2)) p3) pos) (tRevL K te) := hK ▸ pe_revL he
end Mi

set_option maxHeartbeats 2000000
namespace Mi
open PySem PySem.Spec PyProof.Rows L2 Evl
/-! ### all parameters by name, in the other order -/
structure AtW (K : PySem.W.Frag) (mg : Str → Option Value) (x : Str) (st : Stmt) (ps : List Str) : Prop where
  ex : ∃ f fd, mg x = some (.ref f) ∧ Fun K x x st f fd ∧ ∀ (s : Shared) (ws : List Value), ws.length = ps.length → BindsTo s fd ⟨[], ps.reverse.zip ws⟩ (ps.zip ws.reverse)
structure HasW (P : Program) (w : World) (K : PySem.W.Frag) (mg : Str → Option Value) (base : Heap) (k : Nat) (x : Str) (ps : List Str) (sp : Sp) : Prop where
  ex : ∃ f fd, mg x = some (.ref f) ∧ PySem.W.keepIn K (.ref f) = true ∧ FnOk P w K mg base CX0 k f fd ps sp ∧ ∀ (s : Shared) (ws : List Value), ws.length = ps.length → BindsTo s fd ⟨[], ps.reverse.zip ws⟩ (ps.zip ws.reverse)
theorem Fun.okR {P : Program} {w : World} {K : PySem.W.Frag} {mg : Str → Option Value} {base : Heap} {x : Str} {st : Stmt} {f : Addr} {fd : FuncData} {N ps : List Str} {k : Nat} {T : Type} {pre : T → Prop} {args : T → List Dd} {ret : T → Dd}
    (F : Fun K x x st f fd) (Sc : FnScope N ps (defScope st)) (hl : ∀ a, (args a).length = ps.length)
    (hbody : ∀ (cdv : Value) (A : Around) (outer : List Env) (s : Shared) (H : Hp) (a : T) (vs : List V) (Q : VK) (E : XK), Room k (A.deeper (envOfC x (defScope st) s.heap.objs.size f cdv)) → pre a → IsAll K H (args a) vs →
      (∀ v H', Ex H H' → Is K H' (ret a) v → Q v H') →
      ∃ t, PSs (cxOf CX0 P w K mg base N x (defScope st) f cdv A outer s H E).nox (defBody st) t ∧ t { nx := fun _ H' => Q .non H', rt := Q } (start N vs) H) :
    FnOk P w K mg base CX0 (k + 1) f fd ps (spR K pre args ret) := by
  refine F.ok Sc (fun vs H Q E hsp => ?_) (fun cdv A outer s H vs Q E hr hsp => ?_)
  · obtain ⟨a, _, hv, _⟩ := hsp
    rw [← hv.len, hl]
  · obtain ⟨a, hp, hv, hk⟩ := hsp
    exact hbody cdv A outer s H a vs Q E hr hp hv hk
theorem Fun.okF {P : Program} {w : World} {K : PySem.W.Frag} {mg : Str → Option Value} {base : Heap} {x : Str} {st : Stmt} {f : Addr} {fd : FuncData} {N ps : List Str} {k : Nat} {T : Type} {pre : T → Prop} {args : T → List Dd} {ret : T → Dd}
    (F : Fun K x x st f fd) (Sc : FnScope N ps (defScope st)) (hl : ∀ a, (args a).length = ps.length)
    (hbody : ∀ (cdv : Value) (Ar : Around) (outer : List Env) (s : Shared) (G A : Hp) (a : T) (vs : List V) (Q : VK) (E : XK), Room k (Ar.deeper (envOfC x (defScope st) s.heap.objs.size f cdv)) → pre a → Ex G A → IsAll K G (args a) vs →
      (∀ v G' A', Step G A G' A' → Is K G' (ret a) v → Q v A') →
      ∃ t, PSs (cxOf CX0 P w K mg base N x (defScope st) f cdv Ar outer s A E).nox (defBody st) t ∧ t { nx := fun _ A' => Q .non A', rt := Q } (start N vs) A) :
    FnOk P w K mg base CX0 (k + 1) f fd ps (spF K pre args ret) := by
  refine F.ok Sc (fun vs H Q E hsp => ?_) (fun cdv Ar outer s A vs Q E hr hsp => ?_)
  · obtain ⟨a, _, G, _, hv, _⟩ := hsp
    rw [← hv.len, hl]
  · obtain ⟨a, hp, G, hA, hv, hk⟩ := hsp
    exact hbody cdv Ar outer s G A a vs Q E hr hp hA hv hk
theorem At.has {P : Program} {w : World} {K : PySem.W.Frag} {mg : Str → Option Value} {base : Heap} {x : Str} {st : Stmt} {ps : List Str} {k : Nat} {sp : Sp} (h : At K mg x st ps) (hf : ∀ {f fd}, Fun K x x st f fd → FnOk P w K mg base CX0 k f fd ps sp) : Has P w K mg base k x ps sp := by
  obtain ⟨f, fd, hm, F, b0, b1, b2⟩ := h.ex
  exact ⟨f, fd, hm, F.kp, hf F, b0, b1, b2⟩
theorem AtW.has {P : Program} {w : World} {K : PySem.W.Frag} {mg : Str → Option Value} {base : Heap} {x : Str} {st : Stmt} {ps : List Str} {k : Nat} {sp : Sp} (h : AtW K mg x st ps) (hf : ∀ {f fd}, Fun K x x st f fd → FnOk P w K mg base CX0 k f fd ps sp) : HasW P w K mg base k x ps sp := by
  obtain ⟨f, fd, hm, F, b⟩ := h.ex
  exact ⟨f, fd, hm, F.kp, hf F, b⟩
theorem pe_bm0_k {X : Cx} {K : PySem.W.Frag} {o : Expr} {to : TE} {name : Str} {apos cpos : Pos} {T id : String} {r : V → List V → Hp → VK → Prop} (pa : PlainAttrs T) (slot : Slot T name id) (hty : typeOf (.builtin id) = pure (.type "method_descriptor")) (hm : MtR X id r) (ho : PE X o to)
    (hK : X.K = K := by rfl) (hbase : attributeBase o name X.env (eval o X.env) = eval o X.env := by rfl) (hline : (apos.endLine == cpos.line) = true := by rfl) : PE X (.Call (.Attribute o name apos) [] [] cpos) (tBM0 K T r to) := hK ▸ pe_bm0 pa slot hty hm ho hbase hline
def tCallW (sp : Sp) (t : TA) : TE := fun σ H Q => t σ H fun vs H2 => sp vs.reverse H2 Q E0
theorem pe_callW {X : Cx} {k : Nat} {ps : List Str} {sp : Sp} {x : Str} {p pos : Pos} {kws : List Keyword} {t : TA} (F : HasW X.prog X.w X.K X.mg X.base k x ps sp) (hr : Room k X.A) (hkw : PK X kws t) (hg : Gl X x := by rfl) (hdb : (x == ("__debug__" : Str)) = false := by decide)
    (hall : (backToKw pos (keywordEach kws X.env)).all (·.1.isSome) = true := by rfl)
    (hks : (backToKw pos (keywordEach kws X.env)).filterMap (·.1) = ps.reverse := by rfl)
    (hpl : (backToKw pos (keywordEach kws X.env)).any (·.1.isNone) = false := by rfl) :
    PE X (.Call (.Name x p) [] kws pos) (tCallW sp t) := by
  obtain ⟨f, fd, hm, hk, F, hb⟩ := F.ex
  refine ⟨fun pins s σ H Q I h => ?_⟩
  refine wpAny_Call_Name_kw (ld_glob I hg hm ?_ hdb)
  refine PySem.W.callWith_KW0 (h₀ := X.base) I.ok.mod.kin hk hall (thn (hkw.run pos pins s σ H _ I h) fun ws s2 ⟨zs, H2, I2, rz, q2⟩ => ⟨I2.kIn, ?_⟩) hpl
  rw [hks]
  have hl := F.len _ _ _ _ q2
  rw [List.length_reverse] at hl
  have hw : ws.length = ps.length := by rw [← rz.length]; exact hl
  refine wpAny_call (codeAny_mono (F.run X.A X.stack s2 H2 ⟨[], ps.reverse.zip ws⟩ ws.reverse zs.reverse Q E0 hr I2.env0 (hb s2 ws hw) rz.reverse q2) fun r s' hq => ?_)
  cases r with
  | error e => exact pass0 pins σ H2 s2 e s' I2 hq
  | ok fl =>
    cases fl with
    | ret u => exact I2.after hq
    | next => exact False.elim hq
    | brk => exact False.elim hq
    | cont => exact False.elim hq
section
variable {K : PySem.W.Frag} {σ : L2.St} {G H : Hp} {te : TE} {tr : TA} {d : Dd} {ds : List Dd} {D : Ends} {tz : TS}
theorem isAll_app : ∀ {as bs : List Dd} {us vs : List V}, IsAll K H as us → IsAll K H bs vs → IsAll K H (as ++ bs) (us ++ vs)
  | _, _, _, _, .nil, b => b
  | _, _, _, _, .cons a r, b => .cons a (isAll_app r b)
theorem isAll_rev : ∀ {ds : List Dd} {vs : List V}, IsAll K H ds vs → IsAll K H ds.reverse vs.reverse
  | _, _, .nil => .nil
  | _, _, .cons a r => by
    rw [List.reverse_cons, List.reverse_cons]
    exact isAll_app (isAll_rev r) (.cons a .nil)
theorem er_callW {T : Type} {pre : T → Prop} {args : T → List Dd} {ret : T → Dd} (a : T) (h : Era K tr σ H ds) (hd : ds.reverse = args a) (hp : pre a) : Er K (tCallW (spR K pre args ret) tr) σ H (ret a) := fun H1 e Q q =>
  h H1 e _ fun vs H2 e2 z => ⟨a, hp, hd ▸ isAll_rev z, fun v H' e3 hv => q v H' (e2.trans e3) hv⟩
theorem er_callWF {T : Type} {pre : T → Prop} {args : T → List Dd} {ret : T → Dd} (a : T) (h : Era K tr σ H ds) (hd : ds.reverse = args a) (hp : pre a) : Er K (tCallW (spF K pre args ret) tr) σ H (ret a) := fun H1 e Q q =>
  h H1 e _ fun vs H2 e2 z => ⟨a, hp, H2, Ex.refl _, hd ▸ isAll_rev z, fun v G' A' s hv => q v A' (e2.trans s.a) (hv.mono s.v)⟩
/-! ### isinstance of an object of ours -/
theorem kit_own {C : Addr} : PySem.W.kitOne K (.ref C) (.ref C) = some true := by
  unfold PySem.W.kitOne
  rw [if_pos (by simp)]
theorem rc_isiO {C : Addr} (O : ObTy K C) (ht : ∀ H1 v, Is K H1 d v → ∃ a dx fs, v = .ref a ∧ H1 a = some (.ins C dx fs)) : Rc K (rIsi K) [d, .v (.ref C)] (.b true) := fun vs H1 h Q q => by
  rcases h with _ | ⟨h1, _ | ⟨h2, _ | _⟩⟩
  rename_i v u
  obtain ⟨a, dx, fs, rfl, hx⟩ := ht H1 v h1
  obtain rfl : u = V.ref C := h2
  exact ⟨_, _, _, _, true, rfl, .own C, .base (.ins hx O.cl O.fc O.sp O.tk O.mr), kit_own, q _ H1 (Ex.refl _) rfl⟩
/-! ### != of tuples -/
theorem ro_neU {ns ms : List Int} : Ro K (rNeD K) (.u (vis ns)) (.u (vis ms)) (.v (.bl (!decide (ns = ms)))) := by
  rintro _ _ H1 ⟨p, rfl, hp⟩ ⟨p', rfl, hp'⟩ Q q
  refine ⟨_, _, .tup hp (dpAll_ints ns), .tup hp' (dpAll_ints ms), shaped_tup ns, shaped_tup ms, q _ H1 (Ex.refl H1) ?_⟩
  show V.bl (!PyData.eqvAll _ _) = _
  rw [eqv_ints]
/-! ### xs.clear(), xs.extend(ys) -/
theorem s_clear {l : Addr} {xs : List V} (hl : H l = some (.lst xs)) (ha : Er K te σ H (.v (.ref l))) (k : ∀ H1, Ex H H1 → tz D σ (upd H1 l (.lst []))) : tSeq (tDrop (tBM0 K "list" rClear te)) tz D σ H :=
  ha H (Ex.refl _) _ fun v H1 e z => by
    obtain rfl : v = V.ref l := z
    exact ⟨Or.inl ⟨rfl, xs, sq_of (e l _ hl)⟩, l, xs, rfl, rfl, e l _ hl, k H1 e⟩
theorem s_extend {l : Addr} {xs zs : List V} (hl : H l = some (.lst xs)) (ha : Er K te σ H (.v (.ref l))) (h : Era K tr σ H [.n zs]) (hz : xs.length + zs.length ≤ 100000) (k : ∀ H1, Ex H H1 → tz D σ (upd H1 l (.lst (xs ++ zs)))) : tSeq (tDrop (tBM K "list" rExtend te tr)) tz D σ H :=
  ha H (Ex.refl _) _ fun v H1 e z => by
    obtain rfl : v = V.ref l := z
    refine ⟨Or.inl ⟨rfl, xs, sq_of (e l _ hl)⟩, h H1 e _ fun vs H2 e2 z2 => ?_⟩
    rcases z2 with _ | ⟨⟨p, rfl, hp⟩, _ | _⟩
    exact ⟨l, p, xs, zs, rfl, rfl, e2 l _ (e l _ hl), hp, sz_of hz, k H2 (e.trans e2)⟩
end
end Mi

set_option maxHeartbeats 2000000
namespace Mi
open PySem PySem.Spec PyProof.Rows L2 Evl
/-! ### the mathematics of peeling all layers at once -/
abbrev Lay := List Nat
def okQ (p : Nat × Nat) : Bool := p.1 == p.2 || (p.1 == 45 || p.2 == 45)
def agQ (a b : Lay) : Bool := (a.zip b).all okQ
def frQ (a b : Lay) : Lay := (a.zip b).map fun p => if p.2 = 45 then p.1 else 45
def prQ (a b : Lay) : Lay := (a.zip b).map fun p => if p.2 = 45 then p.1 else p.2
theorem frQ_len {a b : Lay} (h : a.length = b.length) : (frQ a b).length = a.length := by
  unfold frQ
  rw [List.length_map, List.length_zip]
  omega
theorem prQ_len {a b : Lay} (h : a.length = b.length) : (prQ a b).length = a.length := by
  unfold prQ
  rw [List.length_map, List.length_zip]
  omega
theorem agQ_iff : ∀ {a b : Lay}, a.length = b.length → (agQ a b = true ↔ ∀ c, c < a.length → (a.getD c 0 = b.getD c 0 ∨ a.getD c 0 = 45 ∨ b.getD c 0 = 45))
  | [], [], _ => by simp [agQ]
  | x :: a, y :: b, h => by
    have ih := agQ_iff (a := a) (b := b) (by simpa using h)
    unfold agQ at ih ⊢
    rw [List.zip_cons_cons, List.all_cons, Bool.and_eq_true, ih]
    unfold okQ
    constructor
    · rintro ⟨h1, h2⟩ c hc
      cases c with
      | zero => simpa using h1
      | succ c => exact h2 c (by simpa using hc)
    · intro h2
      refine ⟨by simpa using h2 0 (by simp), fun c hc => h2 (c + 1) (by simpa using hc)⟩
theorem frQ_at {a b : Lay} (h : a.length = b.length) {c : Nat} (hc : c < a.length) : (frQ a b).getD c 0 = if b.getD c 0 = 45 then a.getD c 0 else 45 := by
  have h1 : a[c]? = some a[c] := List.getElem?_eq_getElem hc
  have h2 : b[c]? = some b[c] := List.getElem?_eq_getElem (by omega)
  have hz : (a.zip b)[c]? = some (a[c], b[c]) := List.getElem?_zip_eq_some (z := (a[c], b[c])) |>.mpr ⟨h1, h2⟩
  unfold frQ
  rw [List.getD_eq_getElem?_getD, List.getD_eq_getElem?_getD, List.getD_eq_getElem?_getD, List.getElem?_map, hz, h1, h2]
  rfl
theorem prQ_at {a b : Lay} (h : a.length = b.length) {c : Nat} (hc : c < a.length) : (prQ a b).getD c 0 = if b.getD c 0 = 45 then a.getD c 0 else b.getD c 0 := by
  have h1 : a[c]? = some a[c] := List.getElem?_eq_getElem hc
  have h2 : b[c]? = some b[c] := List.getElem?_eq_getElem (by omega)
  have hz : (a.zip b)[c]? = some (a[c], b[c]) := List.getElem?_zip_eq_some (z := (a[c], b[c])) |>.mpr ⟨h1, h2⟩
  unfold prQ
  rw [List.getD_eq_getElem?_getD, List.getD_eq_getElem?_getD, List.getD_eq_getElem?_getD, List.getElem?_map, hz, h1, h2]
  rfl
theorem lay_ext {a b : Lay} (h : a.length = b.length) (he : ∀ c, c < a.length → a.getD c 0 = b.getD c 0) : a = b := by
  apply List.ext_getElem h
  intro i h1 h2
  have := he i h1
  rw [List.getD_eq_getElem?_getD, List.getD_eq_getElem?_getD, List.getElem?_eq_getElem h1, List.getElem?_eq_getElem h2] at this
  exact this
theorem frQ_comm {a b c : Lay} (h1 : a.length = b.length) (h2 : a.length = c.length) : frQ (frQ a b) c = frQ (frQ a c) b := by
  have l1 := frQ_len h1
  have l2 := frQ_len h2
  have l3 := frQ_len (a := frQ a b) (b := c) (by omega)
  have l4 := frQ_len (a := frQ a c) (b := b) (by omega)
  refine lay_ext (by omega) fun i hi => ?_
  rw [frQ_at (by omega) (by omega), frQ_at (by omega) (by omega), frQ_at (by omega) (by omega), frQ_at (by omega) (by omega)]
  split <;> split <;> rfl
theorem agQ_free {a b t : Lay} (h1 : a.length = b.length) (h2 : a.length = t.length) (h : agQ a t = true) : agQ (frQ a b) t = true := by
  have l1 := frQ_len h1
  rw [agQ_iff (by omega)] at h ⊢
  intro c hc
  rw [frQ_at h1 (by omega)]
  by_cases hb : b.getD c 0 = 45
  · rw [if_pos hb]
    exact h c (by omega)
  · rw [if_neg hb]
    exact .inr (.inl rfl)
/-- a press over what fits: the stamp agrees, and what lay there fits what is left -/
theorem agQ_press {x t y : Lay} (h1 : x.length = t.length) (h2 : x.length = y.length) : agQ (prQ x t) y = true ↔ agQ y t = true ∧ agQ x (frQ y t) = true := by
  have l1 := prQ_len h1
  have l2 := frQ_len (a := y) (b := t) (by omega)
  rw [agQ_iff (by omega), agQ_iff (by omega), agQ_iff (by omega)]
  constructor
  · intro h
    refine ⟨fun c hc => ?_, fun c hc => ?_⟩
    · have q := h c (by omega)
      rw [prQ_at h1 (by omega)] at q
      by_cases ht : t.getD c 0 = 45
      · exact .inr (.inr ht)
      · rw [if_neg ht] at q
        rcases q with q | q | q
        · exact .inl q.symm
        · exact absurd q ht
        · exact .inr (.inl q)
    · have q := h c (by omega)
      rw [prQ_at h1 (by omega)] at q
      rw [frQ_at (by omega) (by omega)]
      by_cases ht : t.getD c 0 = 45
      · rw [if_pos ht] at q ⊢
        exact q
      · rw [if_neg ht]
        exact .inr (.inr rfl)
  · rintro ⟨ha, hb⟩ c hc
    have q1 := ha c (by omega)
    have q2 := hb c (by omega)
    rw [frQ_at (by omega) (by omega)] at q2
    rw [prQ_at h1 (by omega)]
    by_cases ht : t.getD c 0 = 45
    · rw [if_pos ht] at q2 ⊢
      exact q2
    · rw [if_neg ht]
      rcases q1 with q | q | q
      · exact .inl q.symm
      · exact .inr (.inr q)
      · exact absurd q ht
theorem prQ_assoc {x n t : Lay} (h1 : x.length = n.length) (h2 : x.length = t.length) : prQ x (prQ n t) = prQ (prQ x n) t := by
  have l1 := prQ_len h1
  have l2 := prQ_len (a := n) (b := t) (by omega)
  have l3 := prQ_len (a := x) (b := prQ n t) (by omega)
  have l4 := prQ_len (a := prQ x n) (b := t) (by omega)
  refine lay_ext (by omega) fun c hc => ?_
  rw [prQ_at (by omega) (by omega), prQ_at (by omega) (by omega), prQ_at (by omega) (by omega), prQ_at (by omega) (by omega)]
  by_cases ht : t.getD c 0 = 45
  · rw [if_pos ht, if_pos ht]
  · rw [if_neg ht, if_neg ht, if_neg ht]
/-! ### stamps by name, layers of one size -/
section
variable {N : Type} [DecidableEq N] (st : N → Lay) (size : Nat)
def agA (ls : List Lay) (n : N) : Bool := ls.all fun l => agQ l (st n)
def plA (ls : List Lay) (n : N) : List Lay := ls.map fun l => frQ l (st n)
def Siz (ls : List Lay) : Prop := ∀ l ∈ ls, l.length = size
variable {st size}
theorem plA_siz {ls : List Lay} {n : N} (h : Siz size ls) (hn : (st n).length = size) : Siz size (plA st ls n) := by
  intro l hl
  obtain ⟨x, hx, rfl⟩ := List.mem_map.mp hl
  have := h x hx
  rw [frQ_len (by omega)]
  exact this
theorem plA_comm {ls : List Lay} {n m : N} (h : Siz size ls) (hn : (st n).length = size) (hm : (st m).length = size) : plA st (plA st ls n) m = plA st (plA st ls m) n := by
  unfold plA
  rw [List.map_map, List.map_map]
  apply List.map_congr_left
  intro l hl
  have := h l hl
  exact frQ_comm (by omega) (by omega)
theorem agA_more {ls : List Lay} {n m : N} (h : Siz size ls) (hn : (st n).length = size) (hm : (st m).length = size) (ha : agA st ls m = true) : agA st (plA st ls n) m = true := by
  unfold agA at ha ⊢
  rw [List.all_eq_true] at ha ⊢
  intro l hl
  obtain ⟨x, hx, rfl⟩ := List.mem_map.mp hl
  have := h x hx
  exact agQ_free (by omega) (by omega) (ha x hx)
variable (st)
def PlS : List Lay → List N → Prop
  | _, [] => True
  | ls, n :: r => agA st ls n = true ∧ PlS (plA st ls n) r
def plL (ls : List Lay) (q : List N) : List Lay := q.foldl (plA st) ls
variable {st}
theorem PlS.more {n : N} (hn : (st n).length = size) : ∀ {q : List N} {ls : List Lay}, Siz size ls → (∀ m ∈ q, (st m).length = size) → PlS st ls q → PlS st (plA st ls n) q
  | [], _, _, _, _ => trivial
  | m :: r, ls, h, hq, hp => by
    have hm := hq m (List.mem_cons_self ..)
    refine ⟨agA_more h hn hm hp.1, ?_⟩
    rw [plA_comm h hn hm]
    exact PlS.more hn (plA_siz h hm) (fun x hx => hq x (List.mem_cons_of_mem _ hx)) hp.2
/-- a stamp may be peeled off earlier -/
theorem PlS.erase {n : N} (hn : (st n).length = size) : ∀ {q : List N} {ls : List Lay}, Siz size ls → (∀ m ∈ q, (st m).length = size) → PlS st ls q → PlS st (plA st ls n) (q.erase n)
  | [], _, _, _, _ => trivial
  | m :: r, ls, h, hq, hp => by
    have hm := hq m (List.mem_cons_self ..)
    have hr : ∀ x ∈ r, (st x).length = size := fun x hx => hq x (List.mem_cons_of_mem _ hx)
    by_cases e : m = n
    · subst e
      rw [List.erase_cons_head]
      exact hp.2
    · rw [List.erase_cons_tail (by simpa using e)]
      refine ⟨agA_more h hn hm hp.1, ?_⟩
      rw [plA_comm h hn hm]
      exact PlS.erase hn (plA_siz h hm) hr hp.2
theorem plL_siz : ∀ {q : List N} {ls : List Lay}, Siz size ls → (∀ m ∈ q, (st m).length = size) → Siz size (plL st ls q)
  | [], _, h, _ => h
  | m :: r, ls, h, hq => plL_siz (q := r) (plA_siz h (hq m (List.mem_cons_self ..))) fun x hx => hq x (List.mem_cons_of_mem _ hx)
/-- where p leaves all of S stuck, every peeling within S stays within p -/
theorem within : ∀ {p q : List N} {ls : List Lay} {S : N → Prop}, Siz size ls → (∀ n ∈ p, (st n).length = size) → (∀ n ∈ q, (st n).length = size) → q.Nodup → (∀ n ∈ q, S n) → (∀ n, S n → n ∉ p → agA st (plL st ls p) n = false) → PlS st ls q → ∀ n ∈ q, n ∈ p
  | [], q, ls, S, h, _, _, _, hq, hst, hp, n, hn => by
    cases q with
    | nil => cases hn
    | cons m r =>
      have z : agA st ls m = false := hst m (hq m (List.mem_cons_self ..)) (by simp)
      rw [hp.1] at z
      cases z
  | m :: p, q, ls, S, h, hps, hqs, hqn, hq, hst, hp, n, hn => by
    have hm := hps m (List.mem_cons_self ..)
    by_cases e : n = m
    · rw [e]
      exact List.mem_cons_self ..
    · have key := within (p := p) (q := q.erase m) (ls := plA st ls m) (S := fun n => S n ∧ n ≠ m) (plA_siz h hm) (fun x hx => hps x (List.mem_cons_of_mem _ hx)) (fun x hx => hqs x (List.mem_of_mem_erase hx)) (hqn.erase m) (fun x hx => ⟨hq x (List.mem_of_mem_erase hx), fun z => by
        rw [z] at hx
        exact ((List.Nodup.mem_erase_iff hqn).mp hx).1 rfl⟩) (fun x hx hxp => hst x hx.1 fun z => (List.mem_cons.mp z).elim hx.2 hxp) (PlS.erase hm h hqs hp)
      exact List.mem_cons_of_mem _ (key n ((List.mem_erase_of_ne e).mpr hn))
/-- two peelings of ns that leave it stuck peel off the same stamps -/
theorem same_peel {ns p q : List N} {ls : List Lay} (h : Siz size ls) (hs : ∀ n ∈ ns, (st n).length = size) (hp : ∀ n ∈ p, n ∈ ns) (hq : ∀ n ∈ q, n ∈ ns) (np : p.Nodup) (nq : q.Nodup) (pp : PlS st ls p) (pq : PlS st ls q)
    (sp : ∀ n ∈ ns, n ∉ p → agA st (plL st ls p) n = false) (sq : ∀ n ∈ ns, n ∉ q → agA st (plL st ls q) n = false) : ∀ n, n ∈ p ↔ n ∈ q := fun n =>
  ⟨within (S := fun n => n ∈ ns) h (fun x hx => hs x (hq x hx)) (fun x hx => hs x (hp x hx)) np hp sq pp n, within (S := fun n => n ∈ ns) h (fun x hx => hs x (hp x hx)) (fun x hx => hs x (hq x hx)) nq hq sp pq n⟩
/-! ### the program's way: the first that agrees -/
variable (st)
def stuckG : Nat → List Lay → List N → List N
  | 0, _, ns => ns
  | k + 1, ls, ns => match ns.find? (agA st ls) with
    | none => ns
    | some n => stuckG k (plA st ls n) (ns.filter fun m => !decide (m = n))
variable {st}
theorem stuckG_is : ∀ {k : Nat} {ls : List Lay} {ns : List N}, ns.length ≤ k → ns.Nodup → ∃ p : List N, p.Nodup ∧ (∀ n ∈ p, n ∈ ns) ∧ PlS st ls p ∧ stuckG st k ls ns = (ns.filter fun m => !decide (m ∈ p)) ∧ ∀ n ∈ ns, n ∉ p → agA st (plL st ls p) n = false
  | 0, ls, ns, hl, _ => by
    have : ns = [] := List.length_eq_zero_iff.mp (by omega)
    subst this
    exact ⟨[], List.nodup_nil, by simp, trivial, rfl, by simp⟩
  | k + 1, ls, ns, hl, hn => by
    unfold stuckG
    cases hf : ns.find? (agA st ls) with
    | none =>
      refine ⟨[], List.nodup_nil, by simp, trivial, (List.filter_eq_self.mpr fun _ _ => by simp).symm, fun n h1 _ => ?_⟩
      have := List.find?_eq_none.mp hf n h1
      show agA st ls n = false
      simpa using this
    | some n =>
      have hm := List.mem_of_find?_eq_some hf
      have ha : agA st ls n = true := List.find?_some hf
      have hlt : (ns.filter fun m => !decide (m = n)).length < ns.length := by
        refine List.length_filter_lt_length_iff_exists.mpr ⟨n, hm, by simp⟩
      obtain ⟨p, p1, p2, p3, p4, p5⟩ := stuckG_is (k := k) (ls := plA st ls n) (ns := ns.filter fun m => !decide (m = n)) (by omega) (hn.filter _)
      have hnp : n ∉ p := fun z => by
        have := p2 n z
        simp at this
      refine ⟨n :: p, List.nodup_cons.mpr ⟨hnp, p1⟩, ?_, ⟨ha, p3⟩, ?_, ?_⟩
      · intro x hx
        rcases List.mem_cons.mp hx with rfl | hx
        · exact hm
        · exact (List.mem_filter.mp (p2 x hx)).1
      · show stuckG st k (plA st ls n) _ = _
        rw [p4, List.filter_filter]
        apply List.filter_congr
        intro x _
        by_cases h1 : x = n <;> by_cases h2 : x ∈ p <;> simp [h1, h2]
      · intro x hx hxp
        have h1 : x ≠ n := fun z => hxp (by rw [z]; exact List.mem_cons_self ..)
        have h2 : x ∉ p := fun z => hxp (List.mem_cons_of_mem _ z)
        exact p5 x (List.mem_filter.mpr ⟨hx, by simpa using h1⟩) h2
/-- nothing is stuck: some order of all peels them off -/
theorem stuckG_nil {k : Nat} {ls : List Lay} {ns : List N} (hl : ns.length ≤ k) (hn : ns.Nodup) (h : stuckG st k ls ns = []) : ∃ p : List N, p.Perm ns ∧ PlS st ls p := by
  obtain ⟨p, p1, p2, p3, p4, p5⟩ := stuckG_is (st := st) (ls := ls) hl hn
  rw [h] at p4
  refine ⟨p, ?_, p3⟩
  refine (List.perm_ext_iff_of_nodup p1 hn).mpr fun x => ⟨p2 x, fun hx => ?_⟩
  have := List.filter_eq_nil_iff.mp p4.symm x hx
  simpa using this
theorem stuckG_all {k : Nat} {ls : List Lay} {ns q : List N} (h : Siz size ls) (hs : ∀ n ∈ ns, (st n).length = size) (hl : ns.length ≤ k) (hn : ns.Nodup) (hq : q.Perm ns) (pq : PlS st ls q) : stuckG st k ls ns = [] := by
  obtain ⟨p, p1, p2, p3, p4, p5⟩ := stuckG_is (st := st) (ls := ls) hl hn
  rw [p4, List.filter_eq_nil_iff]
  intro x hx
  have := within (S := fun n => n ∈ ns) h (fun y hy => hs y (p2 y hy)) (fun y hy => hs y (hq.mem_iff.mp hy)) (hq.nodup_iff.mpr hn) (fun y hy => hq.mem_iff.mp hy) p5 pq x (hq.mem_iff.mpr hx)
  simpa using this
/-! ### orders that lead from all the starts to all the layers -/
def pressQ (st : N → Lay) (x : Lay) (r : List N) : Lay := r.foldl (fun l n => prQ l (st n)) x
/-- a row leads there exactly if it peels off from its end and the start fits what is left -/
theorem leads_iff {x : Lay} (hx : x.length = size) : ∀ {q : List N} {y : Lay}, y.length = size → (∀ n ∈ q, (st n).length = size) → (agQ (pressQ st x q.reverse) y = true ↔ (PlS st [y] q ∧ agQ x (q.foldl (fun l n => frQ l (st n)) y) = true))
  | [], y, hy, _ => by simp [pressQ, PlS]
  | n :: r, y, hy, hs => by
    have hn := hs n (List.mem_cons_self ..)
    have hr : ∀ m ∈ r, (st m).length = size := fun m hm => hs m (List.mem_cons_of_mem _ hm)
    have lp : ∀ (q : List N) (z : Lay), z.length = size → (∀ m ∈ q, (st m).length = size) → (pressQ st z q).length = size := by
      intro q
      induction q with
      | nil => intro z hz _; exact hz
      | cons m q ih =>
        intro z hz hq
        have hm := hq m (List.mem_cons_self ..)
        exact ih (prQ z (st m)) (by rw [prQ_len (by omega)]; exact hz) fun x hx => hq x (List.mem_cons_of_mem _ hx)
    have e : pressQ st x (n :: r).reverse = prQ (pressQ st x r.reverse) (st n) := by
      unfold pressQ
      rw [List.reverse_cons, List.foldl_append]
      rfl
    have l1 := lp r.reverse x hx fun m hm => hr m (List.mem_reverse.mp hm)
    have ly : (frQ y (st n)).length = size := by rw [frQ_len (by omega)]; exact hy
    rw [e, agQ_press (by omega) (by omega), leads_iff hx (q := r) ly hr]
    show _ ↔ (agA st [y] n = true ∧ PlS st (plA st [y] n) r) ∧ _
    have ea : agA st [y] n = agQ y (st n) := by simp [agA]
    have ep : plA st [y] n = [frQ y (st n)] := rfl
    rw [ea, ep, and_assoc]
    rfl
/-- peeling several layers at once is peeling each -/
theorem PlS_each : ∀ {q : List N} {ls : List Lay}, PlS st ls q ↔ ∀ l ∈ ls, PlS st [l] q
  | [], _ => by simp [PlS]
  | n :: r, ls => by
    have ih := PlS_each (q := r) (ls := plA st ls n)
    constructor
    · rintro ⟨h1, h2⟩ l hl
      have h3 := ih.mp h2
      refine ⟨?_, ?_⟩
      · simpa [agA] using List.all_eq_true.mp h1 l hl
      · exact h3 (frQ l (st n)) (List.mem_map.mpr ⟨l, hl, rfl⟩)
    · intro h
      refine ⟨List.all_eq_true.mpr fun l hl => ?_, ih.mpr fun l hl => ?_⟩
      · have := (h l hl).1
        simpa [agA] using this
      · obtain ⟨x, hx, rfl⟩ := List.mem_map.mp hl
        exact (h x hx).2
/-- what is left when stamps are taken off does not hang on their order -/
theorem left_at : ∀ {q : List N} {y : Lay}, y.length = size → (∀ n ∈ q, (st n).length = size) → (q.foldl (fun l n => frQ l (st n)) y).length = size ∧ ∀ c, c < size → (q.foldl (fun l n => frQ l (st n)) y).getD c 0 = if q.any (fun n => !decide ((st n).getD c 0 = 45)) = true then 45 else y.getD c 0
  | [], y, hy, _ => ⟨hy, fun c hc => by simp⟩
  | n :: r, y, hy, hs => by
    have hn := hs n (List.mem_cons_self ..)
    have ly : (frQ y (st n)).length = size := by rw [frQ_len (by omega)]; exact hy
    obtain ⟨i1, i2⟩ := left_at (q := r) ly fun m hm => hs m (List.mem_cons_of_mem _ hm)
    refine ⟨i1, fun c hc => ?_⟩
    show (r.foldl (fun l n => frQ l (st n)) (frQ y (st n))).getD c 0 = _
    rw [i2 c hc, frQ_at (by omega) (by omega), List.any_cons]
    by_cases h1 : (st n).getD c 0 = 45
    · rw [if_pos h1, decide_eq_true h1]
      simp
    · rw [if_neg h1, decide_eq_false h1]
      simp
theorem left_same {p q : List N} {y : Lay} (hy : y.length = size) (hp : ∀ n ∈ p, (st n).length = size) (h : ∀ n, n ∈ p ↔ n ∈ q) : p.foldl (fun l n => frQ l (st n)) y = q.foldl (fun l n => frQ l (st n)) y := by
  have hq : ∀ n ∈ q, (st n).length = size := fun n hn => hp n ((h n).mpr hn)
  obtain ⟨a1, a2⟩ := left_at hy hp
  obtain ⟨b1, b2⟩ := left_at hy hq
  refine lay_ext (by omega) fun c hc => ?_
  rw [a2 c (by omega), b2 c (by omega)]
  have e : (p.any fun n => !decide ((st n).getD c 0 = 45)) = q.any fun n => !decide ((st n).getD c 0 = 45) := by
    rw [Bool.eq_iff_iff, List.any_eq_true, List.any_eq_true]
    exact ⟨fun ⟨x, hx, z⟩ => ⟨x, (h x).mp hx, z⟩, fun ⟨x, hx, z⟩ => ⟨x, (h x).mpr hx, z⟩⟩
  rw [e]
end
end Mi

set_option maxHeartbeats 2000000
namespace Mi
open PySem PySem.Spec PyProof.Rows L2 Evl
section
variable {N : Type} [DecidableEq N]
/-! ### all orders, row by row -/
def wo (ns : List N) (n : N) : List N := ns.filter fun m => !decide (m = n)
def moreR (ns row : List N) : List (List N) := (ns.filter fun e => !decide (e ∈ row)).map fun e => row ++ [e]
def rowsT (ns : List N) : Nat → List (List N)
  | 0 => [[]]
  | t + 1 => (rowsT ns t).flatMap (moreR ns)
def extR (ns : List N) : Nat → List N → List (List N)
  | 0, row => [row]
  | t + 1, row => (ns.filter fun e => !decide (e ∈ row)).flatMap fun e => extR ns t (row ++ [e])
theorem rows_ext (ns : List N) : ∀ (s t : Nat), rowsT ns (t + s) = (rowsT ns t).flatMap (extR ns s)
  | 0, t => by
    show rowsT ns t = (rowsT ns t).flatMap fun row => [row]
    induction rowsT ns t with
    | nil => rfl
    | cons a r ih => rw [List.flatMap_cons, ← ih]; rfl
  | s + 1, t => by
    have e : t + (s + 1) = (t + 1) + s := by omega
    rw [e, rows_ext ns s (t + 1)]
    show ((rowsT ns t).flatMap (moreR ns)).flatMap (extR ns s) = _
    rw [List.flatMap_assoc]
    congr 1
    funext row
    unfold moreR
    rw [List.flatMap_map]
    rfl
theorem rows_all (ns : List N) (n : Nat) : rowsT ns n = extR ns n [] := by
  have := rows_ext ns n 0
  rw [Nat.zero_add] at this
  rw [this]
  show ([[]] : List (List N)).flatMap (extR ns n) = _
  simp
structure RowP (ns row : List N) (t : Nat) : Prop where
  l : row.length = t
  nd : row.Nodup
  sub : ∀ x ∈ row, x ∈ ns
theorem RowP.more {ns row : List N} {t : Nat} (h : RowP ns row t) {e : N} (h1 : e ∈ ns) (h2 : e ∉ row) : RowP ns (row ++ [e]) (t + 1) := by
  refine ⟨by rw [List.length_append, h.l]; rfl, ?_, fun x hx => ?_⟩
  · exact List.nodup_append.mpr ⟨h.nd, by simp, fun a ha b hb z => h2 (by rw [← List.mem_singleton.mp hb, ← z]; exact ha)⟩
  · rcases List.mem_append.mp hx with q | q
    · exact h.sub x q
    · rw [List.mem_singleton.mp q]
      exact h1
theorem rows_ok (ns : List N) : ∀ (t : Nat), ∀ row ∈ rowsT ns t, RowP ns row t
  | 0, row, h => by
    rw [List.mem_singleton.mp h]
    exact ⟨rfl, List.nodup_nil, by simp⟩
  | t + 1, row, h => by
    obtain ⟨r, hr, hm⟩ := List.mem_flatMap.mp h
    obtain ⟨e, he, rfl⟩ := List.mem_map.mp hm
    obtain ⟨h1, h2⟩ := List.mem_filter.mp he
    exact (rows_ok ns t r hr).more h1 (by simpa using h2)
theorem filt_split {α : Type} (p : α → Bool) : ∀ l : List α, (l.filter fun x => !p x).length + (l.filter p).length = l.length
  | [] => rfl
  | a :: l => by
    have ih := filt_split p l
    rw [List.filter_cons, List.filter_cons, List.length_cons]
    cases p a with
    | true => simp; omega
    | false => simp; omega
theorem rest_len {ns row : List N} {t : Nat} (hn : ns.Nodup) (h : RowP ns row t) : (ns.filter fun e => !decide (e ∈ row)).length + t = ns.length := by
  have h1 : (ns.filter fun e => decide (e ∈ row)).length = row.length := by
    refine List.Perm.length_eq ((List.perm_ext_iff_of_nodup (hn.filter _) h.nd).mpr fun x => ?_)
    rw [List.mem_filter]
    simp only [decide_eq_true_eq]
    exact ⟨fun z => z.2, fun z => ⟨h.sub x z, z⟩⟩
  have h2 := filt_split (fun e => decide (e ∈ row)) ns
  rw [h.l] at h1
  omega
theorem rows_len {ns : List N} (hn : ns.Nodup) : ∀ (t : Nat), (rowsT ns (t + 1)).length = (rowsT ns t).length * (ns.length - t) := fun t => by
  show ((rowsT ns t).flatMap (moreR ns)).length = _
  have key : ∀ l : List (List N), (∀ row ∈ l, RowP ns row t) → (l.flatMap (moreR ns)).length = l.length * (ns.length - t) := by
    intro l
    induction l with
    | nil => intro _; simp
    | cons row r ih =>
      intro h
      have h1 := rest_len hn (h row (List.mem_cons_self ..))
      rw [List.flatMap_cons, List.length_append, ih fun x hx => h x (List.mem_cons_of_mem _ hx), List.length_cons, Nat.add_mul, Nat.one_mul]
      unfold moreR
      rw [List.length_map]
      omega
  exact key _ (rows_ok ns t)
theorem rows_few {ns : List N} (hn : ns.Nodup) (h7 : ns.length ≤ 7) : ∀ t, (rowsT ns t).length ≤ 5040 := by
  have L := rows_len hn
  have l0 : (rowsT ns 0).length = 1 := rfl
  have b1 := L 0
  have b2 := L 1
  have b3 := L 2
  have b4 := L 3
  have b5 := L 4
  have b6 := L 5
  have b7 := L 6
  have m1 : (rowsT ns 1).length ≤ 7 := by rw [b1, l0]; omega
  have up : ∀ {a b c d : Nat}, a ≤ b → c ≤ d → a * c ≤ b * d := fun h1 h2 => Nat.mul_le_mul h1 h2
  have m2 : (rowsT ns 2).length ≤ 42 := by rw [b2]; exact up m1 (show ns.length - 1 ≤ 6 by omega)
  have m3 : (rowsT ns 3).length ≤ 210 := by rw [b3]; exact up m2 (show ns.length - 2 ≤ 5 by omega)
  have m4 : (rowsT ns 4).length ≤ 840 := by rw [b4]; exact up m3 (show ns.length - 3 ≤ 4 by omega)
  have m5 : (rowsT ns 5).length ≤ 2520 := by rw [b5]; exact up m4 (show ns.length - 4 ≤ 3 by omega)
  have m6 : (rowsT ns 6).length ≤ 5040 := by rw [b6]; exact up m5 (show ns.length - 5 ≤ 2 by omega)
  have m7 : (rowsT ns 7).length ≤ 5040 := by rw [b7]; exact up m6 (show ns.length - 6 ≤ 1 by omega)
  have m8 : ∀ k, (rowsT ns (8 + k)).length = 0 := by
    intro k
    induction k with
    | zero => rw [L 7]; have : ns.length - 7 = 0 := by omega
              rw [this, Nat.mul_zero]
    | succ k ih => rw [show 8 + (k + 1) = (8 + k) + 1 by omega, L (8 + k), ih, Nat.zero_mul]
  intro t
  rcases Nat.lt_or_ge t 8 with h | h
  · have : t = 0 ∨ t = 1 ∨ t = 2 ∨ t = 3 ∨ t = 4 ∨ t = 5 ∨ t = 6 ∨ t = 7 := by omega
    rcases this with rfl | rfl | rfl | rfl | rfl | rfl | rfl | rfl <;> omega
  · obtain ⟨k, rfl⟩ : ∃ k, t = 8 + k := ⟨t - 8, by omega⟩
    rw [m8 k]
    omega
theorem rows_perm {ns : List N} (hn : ns.Nodup) {r : List N} (h : r ∈ rowsT ns ns.length) : r.Perm ns := by
  have hr := rows_ok ns _ r h
  have hl := rest_len hn hr
  have h0 : (ns.filter fun e => !decide (e ∈ r)) = [] := List.length_eq_zero_iff.mp (by omega)
  refine (List.perm_ext_iff_of_nodup hr.nd hn).mpr fun x => ⟨hr.sub x, fun hx => ?_⟩
  have := List.filter_eq_nil_iff.mp h0 x hx
  simpa using this
/-! ### the first order -/
section
variable {st : N → Lay} {size : Nat} {ls : List Lay}
def CP (st : N → Lay) (ls : List Lay) (ns : List N) : Prop := stuckG st ns.length ls ns = []
instance (st : N → Lay) (ls : List Lay) (ns : List N) : Decidable (CP st ls ns) := decidable_of_iff ((stuckG st ns.length ls ns).length = 0) List.length_eq_zero_iff
theorem cp_iff (h : Siz size ls) {ns : List N} (hs : ∀ n ∈ ns, (st n).length = size) (hn : ns.Nodup) : CP st ls ns ↔ ∃ q : List N, q.Perm ns ∧ PlS st ls q :=
  ⟨fun z => stuckG_nil (Nat.le_refl _) hn z, fun ⟨q, h1, h2⟩ => stuckG_all h hs (Nat.le_refl _) hn h1 h2⟩
theorem PlS_app : ∀ {p q : List N} {ls : List Lay}, PlS st ls (p ++ q) ↔ PlS st ls p ∧ PlS st (plL st ls p) q
  | [], q, ls => by simp [PlS, plL]
  | n :: p, q, ls => by
    have ih := PlS_app (p := p) (q := q) (ls := plA st ls n)
    show (agA st ls n = true ∧ PlS st (plA st ls n) (p ++ q)) ↔ (agA st ls n = true ∧ PlS st (plA st ls n) p) ∧ PlS st (plL st (plA st ls n) p) q
    rw [ih, and_assoc]
def orderG (st : N → Lay) (ls : List Lay) : Nat → List N → List N
  | 0, _ => []
  | k + 1, rest => match rest.find? (fun n => decide (CP st ls (wo rest n))) with
    | none => []
    | some n => n :: orderG st ls k (wo rest n)
theorem wo_perm {ns : List N} (hn : ns.Nodup) {n : N} (h : n ∈ ns) : (n :: wo ns n).Perm ns := by
  have h1 : n ∉ wo ns n := fun z => by
    have := (List.mem_filter.mp z).2
    simp at this
  refine (List.perm_ext_iff_of_nodup (List.nodup_cons.mpr ⟨h1, hn.filter _⟩) hn).mpr fun x => ?_
  constructor
  · intro z
    rcases List.mem_cons.mp z with rfl | z
    · exact h
    · exact (List.mem_filter.mp z).1
  · intro z
    by_cases e : x = n
    · rw [e]
      exact List.mem_cons_self ..
    · exact List.mem_cons_of_mem _ (List.mem_filter.mpr ⟨z, by simpa using e⟩)
theorem wo_len {ns : List N} (hn : ns.Nodup) {n : N} (h : n ∈ ns) : (wo ns n).length + 1 = ns.length := by
  have := (wo_perm hn h).length_eq
  simpa using this
theorem wo_mem {ns : List N} {n x : N} : x ∈ wo ns n ↔ x ∈ ns ∧ x ≠ n := by
  unfold wo
  rw [List.mem_filter]
  simp
/-- of stamps that all peel off, one may lie lowest -/
theorem low_one (h : Siz size ls) {ns : List N} (hs : ∀ n ∈ ns, (st n).length = size) (hn : ns.Nodup) (hc : CP st ls ns) (hne : ns ≠ []) : ∃ n, ns.find? (fun n => decide (CP st ls (wo ns n))) = some n := by
  obtain ⟨q, hq, hp⟩ := (cp_iff h hs hn).mp hc
  have hq0 : q ≠ [] := fun z => hne (by rw [z] at hq; exact hq.symm.eq_nil)
  obtain ⟨p, a, rfl⟩ : ∃ p a, q = p ++ [a] := ⟨q.dropLast, q.getLast hq0, (List.dropLast_concat_getLast hq0).symm⟩
  have ha : a ∈ ns := hq.mem_iff.mp (by simp)
  have hpp : p.Perm (wo ns a) := by
    have h1 : (a :: p).Perm ns := (List.perm_append_comm (l₁ := [a]) (l₂ := p)).trans hq
    exact List.Perm.cons_inv (h1.trans (wo_perm hn ha).symm)
  have hcp : CP st ls (wo ns a) := (cp_iff h (fun n hx => hs n (wo_mem.mp hx).1) (hn.filter _)).mpr ⟨p, hpp, (PlS_app.mp hp).1⟩
  cases hf : ns.find? (fun n => decide (CP st ls (wo ns n))) with
  | some n => exact ⟨n, rfl⟩
  | none =>
    have := List.find?_eq_none.mp hf a ha
    exact absurd (decide_eq_true hcp) this
theorem filt_more {ns row : List N} {e : N} : (ns.filter fun x => !decide (x ∈ row ++ [e])) = wo (ns.filter fun x => !decide (x ∈ row)) e := by
  unfold wo
  rw [List.filter_filter]
  apply List.filter_congr
  intro x _
  by_cases h1 : x ∈ row <;> by_cases h2 : x = e <;> simp [h1, h2]
theorem first_order (h : Siz size ls) {ns : List N} (hs : ∀ n ∈ ns, (st n).length = size) (hn : ns.Nodup) {V : List N → Bool} (hV : ∀ r, r.Perm ns → (V r = true ↔ PlS st ls r.reverse)) :
    ∀ (t : Nat) (row : List N), RowP ns row (ns.length - t) → t ≤ ns.length → CP st ls (ns.filter fun e => !decide (e ∈ row)) → (∀ q, q.Perm (ns.filter fun e => !decide (e ∈ row)) → PlS st ls q → PlS st (plL st ls q) row.reverse) →
      (extR ns t row).find? V = some (row ++ orderG st ls t (ns.filter fun e => !decide (e ∈ row)))
  | 0, row, hr, ht, hc, hI => by
    have hl := rest_len hn hr
    have h0 : (ns.filter fun e => !decide (e ∈ row)) = [] := List.length_eq_zero_iff.mp (by omega)
    have hp : row.Perm ns := (List.perm_ext_iff_of_nodup hr.nd hn).mpr fun x => ⟨hr.sub x, fun hx => by simpa using List.filter_eq_nil_iff.mp h0 x hx⟩
    have hv : V row = true := (hV row hp).mpr (by
      have := hI [] (by rw [h0]) trivial
      exact this)
    show [row].find? V = some (row ++ [])
    rw [List.append_nil, List.find?_cons_of_pos hv]
  | t + 1, row, hr, ht, hc, hI => by
    have hl := rest_len hn hr
    have hrn : (ns.filter fun e => !decide (e ∈ row)).Nodup := hn.filter _
    have hrs : ∀ n ∈ ns.filter (fun e => !decide (e ∈ row)), (st n).length = size := fun n hx => hs n (List.mem_filter.mp hx).1
    show ((ns.filter fun e => !decide (e ∈ row)).flatMap fun e => extR ns t (row ++ [e])).find? V = _
    rw [List.find?_flatMap]
    have each : ∀ e ∈ ns.filter (fun e => !decide (e ∈ row)), (extR ns t (row ++ [e])).find? V = if CP st ls (wo (ns.filter fun e => !decide (e ∈ row)) e) then some (row ++ [e] ++ orderG st ls t (wo (ns.filter fun e => !decide (e ∈ row)) e)) else none := fun e he => by
      obtain ⟨he1, he2⟩ := List.mem_filter.mp he
      have hre : RowP ns (row ++ [e]) (ns.length - t) := by
        have := hr.more he1 (by simpa using he2)
        rw [show ns.length - (t + 1) + 1 = ns.length - t by omega] at this
        exact this
      by_cases hce : CP st ls (wo (ns.filter fun e => !decide (e ∈ row)) e)
      · rw [if_pos hce, ← filt_more]
        refine first_order h hs hn hV t (row ++ [e]) hre (by omega) (by rw [filt_more]; exact hce) fun q hq hpq => ?_
        rw [filt_more] at hq
        have hqe : (q ++ [e]).Perm (ns.filter fun e => !decide (e ∈ row)) := (List.perm_append_comm (l₁ := q) (l₂ := [e])).trans ((hq.cons e).trans (wo_perm hrn he))
        have hag : agA st (plL st ls q) e = true := by
          cases hx : agA st (plL st ls q) e with
          | true => rfl
          | false =>
            obtain ⟨p, hp1, hp2⟩ := (cp_iff h hrs hrn).mp hc
            have hqs : ∀ n ∈ q, (st n).length = size := fun n hnq => hrs n (wo_mem.mp (hq.mem_iff.mp hnq)).1
            have := within (S := fun n => n ∈ ns.filter (fun e => !decide (e ∈ row))) h hqs (fun n hnp => hrs n (hp1.mem_iff.mp hnp)) (hp1.nodup_iff.mpr hrn) (fun n hnp => hp1.mem_iff.mp hnp) (fun n hS hnq => by
              have : n = e := Classical.byContradiction fun z => hnq (hq.mem_iff.mpr (wo_mem.mpr ⟨hS, z⟩))
              rw [this]
              exact hx) hp2 e (hp1.mem_iff.mpr he)
            exact absurd (wo_mem.mp (hq.mem_iff.mp this)).2 (by simp)
        have happ : PlS st ls (q ++ [e]) := PlS_app.mpr ⟨hpq, hag, trivial⟩
        have := hI _ hqe happ
        rw [List.reverse_append]
        refine ⟨hag, ?_⟩
        have e2 : plL st ls (q ++ [e]) = plA st (plL st ls q) e := by
          unfold plL
          rw [List.foldl_append]
          rfl
        rw [e2] at this
        exact this
      · rw [if_neg hce, List.find?_eq_none]
        intro r hrr hv
        apply hce
        have sub : ∀ (t : Nat) (row r : List N), r ∈ extR ns t row → ∃ u, r = row ++ u := by
          intro t
          induction t with
          | zero => intro row r hr; exact ⟨[], by rw [List.mem_singleton.mp hr, List.append_nil]⟩
          | succ t ih =>
            intro row r hr
            obtain ⟨a, _, h2⟩ := List.mem_flatMap.mp hr
            obtain ⟨u, rfl⟩ := ih _ r h2
            exact ⟨[a] ++ u, by rw [List.append_assoc]⟩
        have okr : ∀ (t : Nat) (row r : List N) (m : Nat), RowP ns row m → r ∈ extR ns t row → RowP ns r (m + t) := by
          intro t
          induction t with
          | zero => intro row r m h1 h2; rw [List.mem_singleton.mp h2]; exact h1
          | succ t ih =>
            intro row r m h1 h2
            obtain ⟨a, ha, h3⟩ := List.mem_flatMap.mp h2
            obtain ⟨a1, a2⟩ := List.mem_filter.mp ha
            have := ih _ r (m + 1) (h1.more a1 (by simpa using a2)) h3
            rw [show m + 1 + t = m + (t + 1) by omega] at this
            exact this
        obtain ⟨u, rfl⟩ := sub t _ r hrr
        have hR := okr t _ _ _ hre hrr
        have hp : ((row ++ [e]) ++ u).Perm ns := by
          have hl2 := rest_len hn hR
          have h0 : (ns.filter fun x => !decide (x ∈ (row ++ [e]) ++ u)) = [] := List.length_eq_zero_iff.mp (by omega)
          refine (List.perm_ext_iff_of_nodup hR.nd hn).mpr fun x => ⟨hR.sub x, fun hx => Classical.byContradiction fun hh => ?_⟩
          have := List.filter_eq_nil_iff.mp h0 x hx
          exact this (by rw [decide_eq_false hh]; rfl)
        have hps := (hV _ hp).mp hv
        rw [List.reverse_append] at hps
        have h1 := (PlS_app.mp hps).1
        refine (cp_iff h (fun n hx => hrs n (wo_mem.mp hx).1) (hrn.filter _)).mpr ⟨u.reverse, ?_, h1⟩
        have hun : u.Nodup := (List.nodup_append.mp hR.nd).2.1
        refine (List.reverse_perm u).trans ((List.perm_ext_iff_of_nodup hun (hrn.filter _)).mpr fun x => ?_)
        show x ∈ u ↔ x ∈ wo (ns.filter fun e => !decide (e ∈ row)) e
        rw [← filt_more, List.mem_filter]
        constructor
        · intro hx
          refine ⟨hR.sub x (List.mem_append_right _ hx), ?_⟩
          have := (List.nodup_append.mp hR.nd).2.2
          simp only [Bool.not_eq_true', decide_eq_false_iff_not]
          exact fun z => this x z x hx rfl
        · rintro ⟨hx1, hx2⟩
          have hx3 := hp.mem_iff.mpr hx1
          rcases List.mem_append.mp hx3 with z | z
          · simp [z] at hx2
          · exact z
    have hne : (ns.filter fun e => !decide (e ∈ row)) ≠ [] := fun z => by
      rw [z] at hl
      simp at hl
      omega
    obtain ⟨a, hfa⟩ := low_one h hrs hrn hc hne
    generalize (ns.filter fun e => !decide (e ∈ row)) = rest at each hfa
    show rest.findSome? (fun e => (extR ns t (row ++ [e])).find? V) = some (row ++ (match rest.find? (fun n => decide (CP st ls (wo rest n))) with | none => [] | some n => n :: orderG st ls t (wo rest n)))
    have key : ∀ l : List N, (∀ e ∈ l, e ∈ rest) → l.findSome? (fun e => (extR ns t (row ++ [e])).find? V) = (l.find? (fun n => decide (CP st ls (wo rest n)))).map fun n => row ++ [n] ++ orderG st ls t (wo rest n) := by
      intro l
      induction l with
      | nil => intro _; rfl
      | cons e r ih =>
        intro hl2
        rw [List.findSome?_cons, List.find?_cons, each e (hl2 e (List.mem_cons_self ..))]
        by_cases hce : CP st ls (wo rest e)
        · rw [if_pos hce, decide_eq_true hce]
          rfl
        · rw [if_neg hce, decide_eq_false hce]
          exact ih fun x hx => hl2 x (List.mem_cons_of_mem _ hx)
    rw [key rest fun e he => he, hfa]
    simp
end
end
end Mi

set_option maxHeartbeats 2000000
namespace Mi
open PySem PySem.Spec PyProof.Rows L2 Evl
/-! ### t + u, t may be empty -/
theorem cat_tup0 {prog : Program} {w : World} {A : Around} {E : Value → Shared → Prop} {s : Shared} {t b : Addr} {ws : List Value} {Q : Value → Shared → Prop} (ht : IsTup s.heap t ([] : List Value).toArray) (hb : IsTup s.heap b ws.toArray) (h1 : Q (.ref b) s) : wpAny (model prog w) A (binaryOp .Add (.ref t) (.ref b)) Q E s := by
  obtain ⟨⟨cls, dd, data, sl⟩, ho, hc, n, hd⟩ := id ht
  obtain ⟨⟨cls2, dd2, data2, sl2⟩, ho2, hc2, n2, hd2⟩ := id hb
  simp only at hc hd hc2 hd2
  subst hc hd hc2 hd2
  exact concat_meets ⟨_, ho, rfl⟩ ⟨_, ho2, rfl⟩ noFill_tuple_add seq_tuple_add PySem.F.slot_tuple_add PySem.F.entry_tuple_add (PySem.F.args_tuple_add_2 _ _)
      (tuple_addW0 t b ([] : List Value).toArray ws.toArray n n2 dd dd2 sl sl2 (by simp)) ⟨ho, ho2, h1⟩
def rCatU (K : PySem.W.Frag) : R2 := fun x y H Q => ∃ a b xs ys, x = .ref a ∧ y = .ref b ∧ SqT K H a xs ∧ SqT K H b ys ∧ xs.length + ys.length ≤ sizeLine ∧ (xs = [] → Q (.ref b) H) ∧ (xs ≠ [] → ys = [] → Q (.ref a) H) ∧ (xs ≠ [] → ys ≠ [] → ∀ p, H p = none → Q (.ref p) (upd H p (.tup (xs ++ ys))))
theorem op_catU {X : Cx} : OpR X (binaryOp .Add) (rCatU X.K) := by
  intro pins s σ H x y v u Q I rx ry h
  obtain ⟨a, b, xs, ys, rfl, rfl, ha, hb, hz, q0, q1, q2⟩ := h
  by_cases hx : xs = []
  · cases rx
    cases ry
    obtain ⟨its, r1, p1, _⟩ := I.tuple ha
    obtain ⟨its2, r2, p2, _⟩ := I.tuple hb
    have e : its = [] := r1.nil_iff.mpr hx
    subst e
    exact cat_tup0 p1 p2 ⟨.ref b, H, I, rfl, q0 hx⟩
  · exact op_catT pins s σ H (.ref a) (.ref b) v u Q I rx ry ⟨a, b, xs, ys, rfl, rfl, ha, hb, hx, hz, q1 hx, q2 hx⟩
theorem op_catU_k {X : Cx} {K : PySem.W.Frag} (h : X.K = K := by rfl) : OpR X (binaryOp .Add) (rCatU K) := h ▸ op_catU
section
variable {K : PySem.W.Frag} {H : Hp}
theorem ro_catU {xs ys : List V} (hz : xs.length + ys.length ≤ 100000) : Ro K (rCatU K) (.u xs) (.u ys) (.u (xs ++ ys)) := by
  rintro _ _ H1 ⟨p, rfl, hp⟩ ⟨p', rfl, hp'⟩ Q q
  refine ⟨p, p', xs, ys, rfl, rfl, hp, hp', sz_of hz, fun e => ?_, fun _ e => ?_, fun _ _ l hl => ?_⟩
  · subst e
    exact q _ H1 (Ex.refl _) ⟨p', rfl, hp'⟩
  · subst e
    rw [List.append_nil] at q
    exact q _ H1 (Ex.refl _) ⟨p, rfl, hp⟩
  · exact q _ _ (Ex.new hl) ⟨l, rfl, st_of upd_same⟩
end
end Mi

set_option maxHeartbeats 2000000
namespace Mi
open PySem PySem.Spec PyProof.Rows L2 Evl PySem.W

/-! ### sorted(t), t a list or a tuple of texts -/
def rSortT (K : PySem.W.Frag) : List V → Hp → VK → Prop := fun vs H Q => ∃ (a : Addr) (ys : List (List Nat)), vs = [.ref a] ∧ (SqL K H a (vsl ys) ∨ SqT K H a (vsl ys)) ∧ ys.length ≤ 1000 ∧ ∀ p, H p = none → Q (.ref p) (upd H p (.lst (vsl (ordd false ys))))
theorem sort_run {X : Cx} {pins : List (Addr × Obj)} {s : Shared} {σ : L2.St} {H : Hp} {a : Addr} {T : String} {o : Obj} {its : List Value} {n : Nat} {ys : List (List Nat)} {Q : VK} (hu : X.A.units + 2 < cLine) (I : Inv X pins σ H s)
    (hT : T = "list" ∨ T = "tuple") (ho : s.heap.get? a = some o) (hc : o.cls = .type T) (hd : o.data = .seq its.toArray n) (e : EachIs IsT its ys) (hL : its.length ≤ 1000)
    (q : ∀ p, H p = none → Q (.ref p) (upd H p (.lst (vsl (ordd false ys))))) : wpAny (model X.prog X.w) X.A (call (.builtin "sorted") [.ref a]) (EP X pins σ Q) X.xe s := by
  have hz : its.length ≤ sizeLine := by rw [sizeLine_eq]; omega
  refine call_function_entry_kw kind_sorted plain_sorted entry_sorted (args_sorted1 _) ?_
  unfold Builtin.«sorted»
  refine wpAny_bind (m := checkCount "sorted" 1 1 _) (wpAny_pure (wpAny_bind (wpAny_collect_seq (n := n) a hT ho hc hd (fun h1 k1 => ?_) (by rw [List.size_toArray]; exact hz))))
  have I1 : Inv X pins σ H { s with heap := h1 } := I.kept (t' := s.toks) k1
  rw [List.toList_toArray]
  refine wpAny_bind (wpAny_newList ?_ hz)
  show wpAny _ _ _ _ _ { s with heap := h1.push (seqObj "list" its.toArray 0) }
  have hD : (h1.push (seqObj "list" its.toArray 0)).get? h1.objs.size = some (seqObj "list" its.toArray 0) := Heap.get?_push_size _ rfl
  refine wpAny_bind (wpAny_holding (wpAny_call_entry_kw slot_list_sort ⟨_, hD, rfl⟩ entry_list_sort ?body (args_list_sort _)))
  case body =>
    show wpAny (model X.prog X.w) X.A.in1.in1 (Builtin.«list.sort» ⟨[.ref h1.objs.size], []⟩) _ _ { s with heap := h1.push (seqObj "list" its.toArray 0) }
    have alk : AllAlike (ys.map fun z => PyData.str (S z)) := AllAlike.of fun _ _ => rfl
    have srt : Sortable (ys.map fun z => PyData.str (S z)) := Sortable.others fun z => ⟨by simp, fun xs => by simp⟩
    have dep : ∀ d, d ∈ ys.map (fun z => PyData.str (S z)) → X.A.in1.in1.units + d.depth < cLine := fun d hd => by
      obtain ⟨z, _, rfl⟩ := List.mem_map.mp hd
      show X.A.units + 1 + 1 + 0 < cLine
      omega
    have rd := reads_of_each (hp := sortingHeap (h1.push (seqObj "list" its.toArray 0)) h1.objs.size its) e
    have out1 : EachIs IsT (sortVals (dataKind (sortingHeap (h1.push (seqObj "list" its.toArray 0)) h1.objs.size its) (ys.map fun z => PyData.str (S z))) false its its) (ys.mergeSort (dataLe false fun z => PyData.str (S z))) := keyedOut_each (rev := false) (fun z => PyData.str (S z)) ⟨_, its, alk, rfl, rd⟩ e
    rw [dataLe_S] at out1
    refine wpAny_mono (list_sort_vals (A := X.A.in1.in1) (s := { s with heap := h1.push (seqObj "list" its.toArray 0) }) (P := fun f s' => f = .done (.ret .none) ∧ EP X pins σ Q (.ref h1.objs.size) s') hD (SortsAt.data rd alk srt dep) hz ⟨rfl, ?_⟩) (fun f s' hf => ?_) fun _ _ e => e
    · obtain ⟨c, hc2⟩ := sortedHeap_at (out := (sortVals (dataKind (sortingHeap (h1.push (seqObj "list" its.toArray 0)) h1.objs.size its) (ys.map fun z => PyData.str (S z))) false its its).toArray) hD
      have hn : H h1.objs.size = none := I1.hok.fresh (Nat.le_refl _)
      have hl4 : (vsl (ordd false ys)).length ≤ sizeLine := by
        rw [vsl_len]
        unfold ordd
        rw [List.length_mergeSort, ← e.length]
        exact hz
      refine ⟨.ref h1.objs.size, _, I1.laid (t' := s.toks) (o := .lst (vsl (ordd false ys))) (fun b u hb => ?_) (Nat.le_refl _) ⟨hl4, _, c, vals_of_each out1, hc2⟩, rfl, q _ hn⟩
      have hlt : b < h1.objs.size := Heap.lt_size hb
      show (sortedHeap _ _ _ _).get? b = some u
      rw [sortedHeap_old (Nat.ne_of_lt hlt) (by rw [size_push']; exact Nat.lt_succ_of_lt hlt)]
      exact Heap.get?_push_of_some _ hb
    · obtain ⟨rfl, hq⟩ := hf
      exact ⟨_, rfl, wpAny_pure ⟨_, rfl, hq⟩⟩
theorem cr_sortT {X : Cx} (hu : X.A.units + 2 < cLine) : CallR X (.builtin "sorted") (rSortT X.K) := by
  intro pins s σ H vs us Q I r h
  obtain ⟨a, ys, rfl, hs, hy, q⟩ := h
  obtain rfl := Vals.ref1 r
  rcases hs with hs | hs
  · obtain ⟨its, rv, hl, _⟩ := I.list hs
    obtain ⟨o, ho, hc, n, hd⟩ := hl.isList
    have ev := each_of_vals rv
    exact sort_run hu I (.inl rfl) ho hc hd ev (by rw [ev.length]; exact hy) q
  · obtain ⟨its, rv, ⟨o, ho, hc, n, hd⟩, _⟩ := I.tuple hs
    have ev := each_of_vals rv
    exact sort_run hu I (.inr rfl) ho hc hd ev (by rw [ev.length]; exact hy) q
theorem cr_sortT_k {X : Cx} {K : PySem.W.Frag} (hu : X.A.units + 2 < cLine) (h : X.K = K := by rfl) : CallR X (.builtin "sorted") (rSortT K) := h ▸ cr_sortT hu
section
variable {K : PySem.W.Frag}
theorem rc_sortT {ys : List (List Nat)} (hy : ys.length ≤ 1000) : Rc K (rSortT K) [.u (vsl ys)] (.n (vsl (ordd false ys))) := by
  rintro _ H1 (_ | ⟨⟨p, rfl, hp⟩, _ | _⟩) Q q
  exact ⟨p, ys, rfl, .inr hp, hy, fun l hl => q _ _ (Ex.new hl) ⟨l, rfl, upd_same⟩⟩
theorem rc_sortL {ys : List (List Nat)} (hy : ys.length ≤ 1000) : Rc K (rSortT K) [.l (vsl ys)] (.n (vsl (ordd false ys))) := by
  rintro _ H1 (_ | ⟨⟨p, rfl, hp⟩, _ | _⟩) Q q
  exact ⟨p, ys, rfl, .inl hp, hy, fun l hl => q _ _ (Ex.new hl) ⟨l, rfl, upd_same⟩⟩
end
/-- two lists sorted are the same exactly if one is the other in another order -/
theorem ordd_eq {xs ys : List (List Nat)} : ordd false xs = ordd false ys ↔ xs.Perm ys := by
  constructor
  · intro h
    have p1 : (ordd false xs).Perm xs := List.mergeSort_perm _ _
    have p2 : (ordd false ys).Perm ys := List.mergeSort_perm _ _
    exact p1.symm.trans (h ▸ p2)
  · intro h
    unfold ordd
    rw [if_neg Bool.false_ne_true]
    have tr : ∀ a b c : List Nat, decide (a ≤ b) = true → decide (b ≤ c) = true → decide (a ≤ c) = true := fun a b c h1 h2 => decide_eq_true (List.le_trans (of_decide_eq_true h1) (of_decide_eq_true h2))
    have to : ∀ a b : List Nat, (decide (a ≤ b) || decide (b ≤ a)) = true := fun a b => by
      rcases List.le_total a b with q | q <;> simp [q]
    refine List.Perm.eq_of_pairwise (le := fun a b => decide (a ≤ b) = true) (fun a b _ _ h1 h2 => List.le_antisymm (of_decide_eq_true h1) (of_decide_eq_true h2)) (List.pairwise_mergeSort tr to xs) (List.pairwise_mergeSort tr to ys) ?_
    exact (List.mergeSort_perm _ _).trans (h.trans (List.mergeSort_perm _ _).symm)

/-! ### t[i:j], t.index(x), xs.index(x) -/
theorem sl_tup_k {X : Cx} {K : PySem.W.Frag} (h : X.K = K := by rfl) : SlR X (rSlA K) := h ▸ sl_tupA
def rTix (K : PySem.W.Frag) : V → List V → Hp → VK → Prop := fun x xs H Q => ∃ p, ∃ ys : List Str, ∃ z j, x = .ref p ∧ xs = [.str z] ∧ SqT K H p (ys.map V.str) ∧ ys[j]? = some z ∧ (∀ m, m < j → ys[m]? ≠ some z) ∧ Q (.int (j : Nat)) H
theorem mt_tindex_k {X : Cx} {K : PySem.W.Frag} (h : X.K = K := by rfl) : MtR X "tuple.index" (rTix K) := h ▸ mt_tup_index
theorem mt_lindex_k {X : Cx} {K : PySem.W.Frag} (h : X.K = K := by rfl) : MtR X "list.index" (rIndex K) := h ▸ mt_index
theorem ix_of {r : List (List Nat)} {n : List Nat} (h : n ∈ r) : r[r.idxOf n]? = some n ∧ ∀ m, m < r.idxOf n → r[m]? ≠ some n := by
  have hl := List.idxOf_lt_length_of_mem h
  refine ⟨by rw [List.getElem?_eq_getElem hl, List.getElem_idxOf hl], fun m hm e => ?_⟩
  obtain ⟨h1, h2⟩ := List.getElem?_eq_some_iff.mp e
  have := List.not_of_lt_findIdx (p := (· == n)) (xs := r) (i := m) hm
  simp [h2] at this
section
variable {K : PySem.W.Frag} {σ : L2.St} {H : Hp} {te ta tb : TE} {r : List (List Nat)} {n : List Nat}
theorem rm_lix (h : n ∈ r) : Rm K "list" (rIndex K) (.l (vsl r)) [.s (S n)] (.i ((r.idxOf n : Nat) : Int)) := by
  obtain ⟨h1, h2⟩ := ix_of h
  have ats : ∀ {m : Nat} {z : V}, (vsl r)[m]? = some z → ∃ l, r[m]? = some l ∧ V.str (S l) = z := fun q => vsl_at q
  refine ⟨fun x H1 e => ?_, ?_⟩
  · obtain ⟨p, rfl, hp⟩ := e
    exact .inl ⟨rfl, _, hp⟩
  · rintro _ _ H1 ⟨p, rfl, hp⟩ (_ | ⟨rfl, _ | _⟩) Q q
    refine ⟨p, vsl r, .str (S n), r.idxOf n, .str (S n), rfl, rfl, hp, rfl, by rw [vsl, vss]; exact List.all_eq_true.mpr fun v hv => by obtain ⟨s, _, rfl⟩ := List.mem_map.mp hv; rfl, by rw [vsl, vss, List.getElem?_map, List.getElem?_map, h1]; rfl, by simp [eqV], fun m z hm hz => ?_, q _ H1 (Ex.refl H1) rfl⟩
    obtain ⟨l, hl, rfl⟩ := ats hz
    have : S l ≠ S n := fun e => h2 m hm (by rw [hl, S_inj e])
    simp [eqV, this]
/-- t[i:j] -/
theorem er_slT {tl th : TO} {xs : List V} {lo hi : Option Int} (h : Er K te σ H (.u xs)) (h1 : EvO tl σ H lo) (h2 : EvO th σ H hi) : Er K (tSl (rSlA K) te tl th) σ H (.u (cutV xs lo hi)) := fun H1 e _ q =>
  h H1 e _ fun v H2 e2 ⟨p, ep, hp⟩ => h1 H2 (e.trans e2) _ fun H3 e3 => h2 H3 ((e.trans e2).trans e3) _ fun H4 e4 => by
    subst ep
    have hp4 := ex_t (e3.trans e4) hp
    refine ⟨p, xs, rfl, hp4, fun hw => q _ H4 ((e2.trans e3).trans e4) ⟨p, rfl, ?_⟩, fun _ l hl => q _ _ (((e2.trans e3).trans e4).trans (Ex.new hl)) ⟨l, rfl, st_of upd_same⟩⟩
    have : cutV xs lo hi = xs := by
      unfold cutV
      rw [hw.1, hw.2, List.drop_zero, Nat.sub_zero, List.take_length]
    rw [this]
    exact hp4
end
theorem cutV_to {xs : List V} {n : Nat} : cutV xs none (some (n : Int)) = xs.take n := by
  unfold cutV
  rw [HT.sIx_none, HT.sIx_nat, List.drop_zero, Nat.sub_zero, List.take_eq_take_iff]
  omega

/-! ### tuples whose objects are known: their methods may be called -/
def Zt (H : Hp) (p : Addr) (xs : List V) : Prop := ∃ o, H p = some (.frz o (.tup xs)) ∧ o.cls = .type "tuple" ∧ o.dict = none
theorem Zt.sq {K : PySem.W.Frag} {H : Hp} {p : Addr} {xs : List V} (h : Zt H p xs) : SqT K H p xs := by
  obtain ⟨o, h, _⟩ := h
  exact .inl (.inr ⟨o, h⟩)
theorem Zt.mono {H H' : Hp} {p : Addr} {xs : List V} (e : Ex H H') (h : Zt H p xs) : Zt H' p xs := by
  obtain ⟨o, h, r⟩ := h
  exact ⟨o, e p _ h, r⟩
def zU (xs : List V) : Dd := .P ⟨fun H v => ∃ p, v = .ref p ∧ Zt H p xs, fun e h => by
  obtain ⟨p, rfl, z⟩ := h
  exact ⟨p, rfl, z.mono e⟩⟩
theorem Is.z2u {K : PySem.W.Frag} {H : Hp} {xs : List V} {v : V} (h : Is K H (zU xs) v) : Is K H (.u xs) v := by
  obtain ⟨p, rfl, z⟩ := h
  exact ⟨p, rfl, z.sq⟩
def tTupZ (t : TA) : TE := fun σ H Q => t σ H fun xs H1 => xs.length ≤ sizeLine ∧ ∀ p (o : Obj), H1 p = none → o.cls = .type "tuple" → o.dict = none → Q (.ref p) (upd H1 p (.frz o (.tup xs)))
theorem pe_tupZ {X : Cx} {es : List Expr} {x1 : Nat} {pos : Pos} {t : TA} (h : PA X es t) : PE X (.Tuple es x1 pos) (tTupZ t) := by
  refine ⟨fun pins s σ H Q I hq => wpAny_Tuple_spliced (thn (h.run pos pins s σ H _ I hq) fun us s1 ⟨xs, H1, I1, r, z, q⟩ => ⟨by rw [← r.length]; exact z, ?_⟩)⟩
  have hn : H1 s1.heap.objs.size = none := I1.hok.fresh (Nat.le_refl _)
  exact ⟨.ref s1.heap.objs.size, _, I1.laid (t' := s1.toks) (o := .frz { cls := .type "tuple", data := .seq us.toArray } (.tup xs)) (fun b u e => Heap.get?_push_of_some _ e) (Nat.le_refl _) ⟨Heap.get?_push_size _ rfl, z, us, r, _, Heap.get?_push_size _ rfl, rfl, _, rfl⟩, rfl, q _ _ hn rfl rfl⟩
def rTupZ (K : PySem.W.Frag) : List V → Hp → VK → Prop := fun vs H Q => ∃ p ys, vs = [.ref p] ∧ SqL K H p ys ∧ ∀ l (o : Obj), H l = none → o.cls = .type "tuple" → o.dict = none → Q (.ref l) (upd H l (.frz o (.tup ys)))
theorem cr_tupZ {X : Cx} : CallR X (.type "tuple") (rTupZ X.K) := by
  rintro pins s σ H xs us Q I r ⟨p, ys, rfl, hq, q⟩
  obtain rfl := Vals.ref1 r
  obtain ⟨its, r', pl, hz⟩ := I.list hq
  have hlen := r'.length
  refine call_tuple_list pl.isList (fun h' kp => ?_) (by rw [List.size_toArray, ← hlen]; exact hz)
  have I1 : Inv X pins σ H { s with heap := h' } := I.kept (t' := s.toks) kp
  exact ⟨.ref h'.objs.size, _, I1.laid (t' := s.toks) (o := .frz { cls := .type "tuple", data := .seq its.toArray } (.tup ys)) (fun b u e => Heap.get?_push_of_some _ e) (Nat.le_refl _) ⟨Heap.get?_push_size _ rfl, hz, its, r', IsTup.new _ _⟩, rfl, q _ _ (I1.hok.fresh (Nat.le_refl _)) rfl rfl⟩
theorem cr_tupZ_k {X : Cx} {K : PySem.W.Frag} (h : X.K = K := by rfl) : CallR X (.type "tuple") (rTupZ K) := h ▸ cr_tupZ
def rCatZ (K : PySem.W.Frag) : R2 := fun x y H Q => ∃ a b xs ys, x = .ref a ∧ y = .ref b ∧ SqT K H a xs ∧ SqT K H b ys ∧ xs.length + ys.length ≤ sizeLine ∧ (xs = [] → Q (.ref b) H) ∧ (xs ≠ [] → ys = [] → Q (.ref a) H) ∧
  (xs ≠ [] → ys ≠ [] → ∀ p (o : Obj), H p = none → o.cls = .type "tuple" → o.dict = none → Q (.ref p) (upd H p (.frz o (.tup (xs ++ ys)))))
theorem op_catZ {X : Cx} : OpR X (binaryOp .Add) (rCatZ X.K) := by
  rintro pins s σ H x y v u Q I rx ry ⟨a, b, xs, ys, rfl, rfl, ha, hb, hz, q0, q1, q2⟩
  by_cases hx : xs = []
  · exact op_catA pins s σ H _ _ v u Q I rx ry ⟨a, b, xs, ys, rfl, rfl, ha, hb, hz, q0, fun h => absurd hx h, fun h => absurd hx h⟩
  · by_cases hy : ys = []
    · exact op_catA pins s σ H _ _ v u Q I rx ry ⟨a, b, xs, ys, rfl, rfl, ha, hb, hz, q0, q1, fun _ h => absurd hy h⟩
    · cases rx
      cases ry
      obtain ⟨us, r1, p1, _⟩ := I.tuple ha
      obtain ⟨ws, r2, p2, _⟩ := I.tuple hb
      refine HT.cat_tup p1 p2 (fun z => hx (r1.nil_iff.mp z)) (fun z => absurd (r2.nil_iff.mp z) hy) (fun z => ?_) (by rw [← r1.length, ← r2.length]; exact hz)
      exact ⟨.ref s.heap.objs.size, _, I.laid (t' := s.toks) (o := .frz { cls := .type "tuple", data := .seq (us ++ ws).toArray } (.tup (xs ++ ys))) (fun b u e => Heap.get?_push_of_some _ e) (Nat.le_refl _) ⟨Heap.get?_push_size _ rfl, by rw [List.length_append]; exact hz, _, r1.append r2, IsTup.new _ _⟩, rfl, q2 hx hy _ _ (I.hok.fresh (Nat.le_refl _)) rfl rfl⟩
theorem op_catZ_k {X : Cx} {K : PySem.W.Frag} (h : X.K = K := by rfl) : OpR X (binaryOp .Add) (rCatZ K) := h ▸ op_catZ
def tBMZ (r : V → List V → Hp → VK → Prop) (to : TE) (t : TA) : TE := fun σ H Q => to σ H fun x H1 => (∃ p xs, x = .ref p ∧ Zt H1 p xs) ∧ t σ H1 fun vs H2 => r x vs H2 Q
theorem pe_bmZ {X : Cx} {o e : Expr} {es : List Expr} {to : TE} {t : TA} {name : Str} {apos cpos : Pos} {id : String} {r : V → List V → Hp → VK → Prop} (pa : PlainAttrs "tuple") (slot : Slot "tuple" name id) (hty : typeOf (.builtin id) = pure (.type "method_descriptor")) (hm : MtR X id r) (ho : PE X o to) (ha : PA X (e :: es) t)
    (hbase : attributeBase o name X.env (eval o X.env) = eval o X.env := by rfl)
    (hfew : ((backTo cpos (starEach (e :: es) X.env)).all (fun x => !x.1) && (backToKw cpos (keywordEach [] X.env)).all (fun x => x.1.isSome) && decide ((e :: es).length + ([] : List Keyword).length + (if ([] : List Keyword).isEmpty then 0 else 1) < 30)) = true := by rfl)
    (hl : (apos.endLine == cpos.line) = true := by rfl) (hs : starEach (e :: es) X.env = (false, eval e X.env) :: starEach es X.env := by rfl) (hp : (backTo cpos (starEach es X.env)).any (·.1) = false := by rfl) :
    PE X (.Call (.Attribute o name apos) (e :: es) [] cpos) (tBMZ r to t) := by
  refine ⟨fun pins s σ H Q I h => wpAny_Call_method_late hbase hfew hl rfl (thn (ho.run pins s σ H _ I h) fun v s1 ⟨x, H1, I1, r1, ⟨p, xs, ex, ⟨ob, hz, hc, hd⟩⟩, q1⟩ => ?_)⟩
  subst ex
  obtain rfl : v = Value.ref p := r1
  have hob : s1.heap.get? p = some ob := (show ObjOk X.prog X.w H1 s1.heap p (.frz ob (.tup xs)) from I1.hok p _ hz).1
  refine ⟨"tuple", id, pa, slot, hty, ⟨ob, hob, hc⟩, fun a e => ?_, ?_⟩
  · cases e
    exact ⟨ob, hob, hd⟩
  have hA := ha.run cpos pins s1 σ H1 _ I1 q1
  rw [hs] at hA ⊢
  exact Calls.callWith_builtin (by show (false || (backTo cpos (starEach es X.env)).any (·.1)) = false; rw [hp]; rfl) (Calls.evalArgs_plain (thn hA fun us s2 ⟨vs, H2, I2, r2, q2⟩ => hm pins s2 σ H2 (.ref p) vs (.ref p) us Q I2 rfl r2 q2))
section
variable {K : PySem.W.Frag} {σ : L2.St} {G H : Hp} {te ta tb to : TE} {tr : TA} {r : List (List Nat)} {n : List Nat} {xs ys : List V}
theorem er_tix (ho : Er K to σ H (zU (vsl r))) (h : Era K tr σ H [.s (S n)]) (hn : n ∈ r) : Er K (tBMZ (rTix K) to tr) σ H (.i ((r.idxOf n : Nat) : Int)) := fun H1 e Q q =>
  ho H1 e _ fun v H2 e2 ⟨p, ev, z⟩ => ⟨⟨p, _, ev, z⟩, h H2 (e.trans e2) _ fun vs H3 e3 zs => by
    rcases zs with _ | ⟨rfl, _ | _⟩
    obtain ⟨h1, h2⟩ := ix_of hn
    refine ⟨p, r.map S, S n, r.idxOf n, ev, rfl, (z.mono e3).sq, by rw [List.getElem?_map, h1]; rfl, fun m hm e => ?_, q _ H3 (e2.trans e3) rfl⟩
    rw [List.getElem?_map] at e
    cases q : r[m]? with
    | none => rw [q] at e; cases e
    | some l =>
      rw [q] at e
      exact h2 m hm (by rw [q, S_inj (Option.some.inj e)])⟩
/-- what a growing list may keep -/
theorem ef_tupZ (h : Era K tr σ G (xs.map Dd.v)) (hl : xs.length ≤ 100000) : Ef K (tTupZ tr) σ G (zU xs) := fun G1 A e1 e2 Q q =>
  h A (e1.trans e2) _ fun ws H2 e z => by
    obtain rfl := flat_all z
    exact ⟨sz_of hl, fun p o hp hc hd => q _ (upd G1 p (.frz o (.tup ws))) _ ((Step.on e2 e).trans (Step.new (e2.trans e) hp)) ⟨p, rfl, o, upd_same, hc, hd⟩⟩
theorem ef_ctupZ (h : Ef K te σ G (.l xs)) : Ef K (tCB (rTupZ K) (tCons te tNil)) σ G (zU xs) := fun G1 A e1 e2 Q q =>
  h G1 A e1 e2 _ fun v G2 A2 s ⟨p, ev, hp⟩ => ⟨p, xs, by rw [ev], ex_l s.v hp, fun l o hl hc hd => q _ (upd G2 l (.frz o (.tup xs))) _ (s.trans (Step.new s.v hl)) ⟨l, rfl, o, upd_same, hc, hd⟩⟩
theorem ef_slT {tl th : TO} {lo hi : Option Int} (h : Ef K te σ G (.u xs)) (h1 : EvO tl σ G lo) (h2 : EvO th σ G hi) : Ef K (tSl (rSlA K) te tl th) σ G (.u (cutV xs lo hi)) := fun G1 A e1 e2 Q q =>
  h G1 A e1 e2 _ fun v G2 A2 s ⟨p, ev, hp⟩ => h1 A2 ((e1.trans e2).trans s.a) _ fun A3 e3 => h2 A3 (((e1.trans e2).trans s.a).trans e3) _ fun A4 e4 => by
    subst ev
    have s4 : Step G1 A G2 A4 := s.trans (Step.on s.v (e3.trans e4))
    refine ⟨p, xs, rfl, ex_t s4.v hp, fun hw => q _ G2 A4 s4 ⟨p, rfl, ?_⟩, fun _ l hl => q _ (upd G2 l (.tup (cutV xs lo hi))) _ (s4.trans (Step.new s4.v hl)) ⟨l, rfl, st_of upd_same⟩⟩
    have : cutV xs lo hi = xs := by
      unfold cutV
      rw [hw.1, hw.2, List.drop_zero, Nat.sub_zero, List.take_length]
    rw [this]
    exact hp
/-- t + u: new, or u itself -/
theorem ef_catZl (ha : Ef K ta σ G (.u xs)) (hb : Ef K tb σ G (zU ys)) (hy : ys ≠ []) (hz : xs.length + ys.length ≤ 100000) : Ef K (tOp (rCatZ K) ta tb) σ G (zU (xs ++ ys)) := fun G1 A e1 e2 Q q =>
  ha G1 A e1 e2 _ fun v G2 A2 s2 ⟨p, ev, hp⟩ => hb G2 A2 (e1.trans s2.g) s2.v _ fun w G3 A3 s3 ⟨p', ew, hp'⟩ => by
    subst ev ew
    have s := s2.trans s3
    refine ⟨p, p', xs, ys, rfl, rfl, ex_t (s3.g.trans s.v) hp, (hp'.mono s.v).sq, sz_of hz, fun hx => q _ G3 A3 s ⟨p', rfl, by rw [hx]; exact hp'⟩, fun _ h => absurd h hy, fun _ _ l o hl hc hd => q _ (upd G3 l (.frz o (.tup (xs ++ ys)))) _ (s.trans (Step.new s.v hl)) ⟨l, rfl, o, upd_same, hc, hd⟩⟩
/-- t + u: new, or t itself -/
theorem ef_catZr (ha : Ef K ta σ G (zU xs)) (hb : Ef K tb σ G (.u ys)) (hx : xs ≠ []) (hz : xs.length + ys.length ≤ 100000) : Ef K (tOp (rCatZ K) ta tb) σ G (zU (xs ++ ys)) := fun G1 A e1 e2 Q q =>
  ha G1 A e1 e2 _ fun v G2 A2 s2 ⟨p, ev, hp⟩ => hb G2 A2 (e1.trans s2.g) s2.v _ fun w G3 A3 s3 ⟨p', ew, hp'⟩ => by
    subst ev ew
    have s := s2.trans s3
    refine ⟨p, p', xs, ys, rfl, rfl, (hp.mono (s3.g.trans s.v)).sq, ex_t s.v hp', sz_of hz, fun h => absurd h hx, fun _ hy => q _ G3 A3 s ⟨p, rfl, by rw [hy, List.append_nil]; exact hp.mono s3.g⟩, fun _ _ l o hl hc hd => q _ (upd G3 l (.frz o (.tup (xs ++ ys)))) _ (s.trans (Step.new s.v hl)) ⟨l, rfl, o, upd_same, hc, hd⟩⟩
end
end Mi

set_option maxHeartbeats 2000000
theorem L2.Room.units2 {k : Nat} {A : PySem.Around} (r : L2.Room k A) : A.units + 2 < PySem.cLine := by have := r.un; omega
theorem L2.Room.units65 {k : Nat} {A : PySem.Around} (r : L2.Room k A) : A.units + 65 < PySem.cLine := by have := r.un; omega
namespace Mi
open PySem PySem.Spec PyProof.Rows L2 Evl

/-! ### x in t, t a list or a tuple of data -/
def rInX (K : PySem.W.Frag) (neg : Bool) : R2 := fun x y H Q => ∃ d ds, Dp K H x d ∧ (Dp K H y (.list ds) ∨ Dp K H y (.tuple ds)) ∧ PyData.canLay0 d = true ∧ PyData.canLayAll0 ds = true ∧ PyData.depth d ≤ 60 ∧ Q (.bl (if neg then !(ds.any fun z => PyData.eqv z d) else ds.any fun z => PyData.eqv z d)) H
theorem room_inX {A : Around} {d : PyData} {ds : List PyData} (hd : PyData.depth d ≤ 60) (hu : A.units + 65 < cLine) : A.units + 1 + min (PyData.depthAll ds) d.depth < cLine := by
  have : min (PyData.depthAll ds) d.depth ≤ d.depth := Nat.min_le_right _ _
  omega
theorem op_inX {X : Cx} (hu : X.A.units + 65 < cLine) : OpR X (compareOp .In) (rInX X.K false) := by
  rintro pins s σ H x y v u Q I rx ry ⟨d, ds, hd, hy, c1, c2, dp, q⟩
  obtain ⟨as, r1⟩ := Dp.reads I d x v hd rx
  rcases hy with hy | hy
  · obtain ⟨bs, r2⟩ := Dp.reads I _ y u hy ry
    exact SeqAt.in_list_reads r2 r1 c2 c1 (room_inX dp hu) ⟨.bl _, H, I, rfl, q⟩
  · obtain ⟨bs, r2⟩ := Dp.reads I _ y u hy ry
    exact SeqAt.in_tuple_reads r2 r1 c2 c1 (room_inX dp hu) ⟨.bl _, H, I, rfl, q⟩
theorem op_niX {X : Cx} (hu : X.A.units + 65 < cLine) : OpR X (compareOp .NotIn) (rInX X.K true) := by
  rintro pins s σ H x y v u Q I rx ry ⟨d, ds, hd, hy, c1, c2, dp, q⟩
  obtain ⟨as, r1⟩ := Dp.reads I d x v hd rx
  rcases hy with hy | hy
  · obtain ⟨bs, r2⟩ := Dp.reads I _ y u hy ry
    exact SeqAt.notIn_list_reads r2 r1 c2 c1 (room_inX dp hu) ⟨.bl _, H, I, rfl, q⟩
  · obtain ⟨bs, r2⟩ := Dp.reads I _ y u hy ry
    exact SeqAt.notIn_tuple_reads r2 r1 c2 c1 (room_inX dp hu) ⟨.bl _, H, I, rfl, q⟩
theorem op_inX_k {X : Cx} {K : PySem.W.Frag} (hu : X.A.units + 65 < cLine) (h : X.K = K := by rfl) : OpR X (compareOp .In) (rInX K false) := h ▸ op_inX hu
theorem op_niX_k {X : Cx} {K : PySem.W.Frag} (hu : X.A.units + 65 < cLine) (h : X.K = K := by rfl) : OpR X (compareOp .NotIn) (rInX K true) := h ▸ op_niX hu
abbrev rwP (r : List (List Nat)) : PyData := .tuple (r.map fun l => PyData.str (S l))
theorem any_rows {r : List (List Nat)} : ∀ rs : List (List (List Nat)), (rs.map rwP).any (fun z => PyData.eqv z (rwP r)) = decide (r ∈ rs)
  | [] => by simp
  | a :: rs => by
    rw [List.map_cons, List.any_cons, any_rows rs]
    have : PyData.eqv (rwP a) (rwP r) = decide (a = r) := by
      show PyData.eqvAll _ _ = _
      exact eqv_strs a r
    rw [this]
    by_cases h : a = r
    · simp [h]
    · have h2 : ¬ r = a := fun z => h z.symm
      simp [h, h2]
theorem lay_rows : ∀ {rs : List (List (List Nat))}, (∀ r ∈ rs, ∀ l ∈ r, okT l) → PyData.canLayAll0 (rs.map rwP) = true
  | [], _ => by simp [PyData.canLayAll0]
  | a :: rs, h => by
    have h1 := (canLay_strs a (h a (List.mem_cons_self ..))).1
    simp [PyData.canLayAll0, PyData.canLay0, lay_rows (rs := rs) fun r hr => h r (List.mem_cons_of_mem _ hr), h1]
section
variable {K : PySem.W.Frag} {σ : L2.St} {G H A : Hp} {te ta tb tl ti tv : TE} {tr : TA} {d e : Dd} {D : Ends} {tu tz : TS} {x : V}
theorem dp_rows {f : List (List Nat) → Dd} (hf : ∀ {r H v}, Is K H (f r) v → Is K H (.u (vsl r)) v) : ∀ {rs : List (List (List Nat))} {vs : List V}, IsE K H (rs.map f) vs → DpAll K H vs (rs.map rwP)
  | [], vs, h => by rw [show vs = [] from h]; exact .nil
  | r :: rs, vs, h => by
    obtain ⟨y, s, rfl, a, b⟩ := h
    obtain ⟨p, rfl, hp⟩ := hf a
    exact .cons (.tup hp (dpAll_strs r)) (dp_rows hf b)
theorem ro_inRows {neg : Bool} {f : List (List Nat) → Dd} (hf : ∀ {r H v}, Is K H (f r) v → Is K H (.u (vsl r)) v) {r : List (List Nat)} {rs : List (List (List Nat))} (h1 : ∀ l ∈ r, okT l) (h2 : ∀ r ∈ rs, ∀ l ∈ r, okT l) {d : Dd} (hd : d = .L (rs.map f) ∨ d = .U (rs.map f)) :
    Ro K (rInX K neg) (.u (vsl r)) d (.b (if neg then !decide (r ∈ rs) else decide (r ∈ rs))) := by
  rintro _ y H1 ⟨p, rfl, hp⟩ hy Q q
  have hc := canLay_strs r h1
  refine ⟨rwP r, rs.map rwP, .tup hp (dpAll_strs r), ?_, by simp [PyData.canLay0, hc.1], lay_rows h2, by simp [PyData.depth, hc.2], q _ H1 (Ex.refl H1) ?_⟩
  · rcases hd with rfl | rfl
    · obtain ⟨p2, vs, rfl, hp2, hE⟩ := hy
      exact .inl (.lst hp2 (dp_rows hf hE))
    · obtain ⟨p2, vs, rfl, hp2, hE⟩ := hy
      exact .inr (.tup hp2 (dp_rows hf hE))
  · rw [any_rows]
    rfl
/-! ### range(a, b), reversed(range(n)) -/
theorem if_range2 {a b : Nat} (h : Era K tr σ G [.i (a : Int), .i (b : Int)]) (ha : a ≤ 100000) (hb : b ≤ 100000) : Itf K (iRng2 tr) σ G ((List.range (b - a)).map fun i : Nat => Dd.i ((a + i : Nat) : Int)) := fun G1 A e1 e2 R r =>
  h A (e1.trans e2) _ fun vs A2 ea z => by
    rcases z with _ | ⟨rfl, _ | ⟨rfl, _ | _⟩⟩
    refine ⟨(a : Int), (b : Int), rfl, ⟨by omega, by omega, by omega, by omega⟩, r _ G1 A2 (.on e2 ea) fun i G' A' e3 e4 => ⟨fun d hd => ?_, fun hi => ?_⟩⟩
    · have hi : i < b - a := by
        have := (List.getElem?_eq_some_iff.mp hd).1
        simpa using this
      rw [List.getElem?_map, List.getElem?_range hi] at hd
      have ed := Option.some.inj hd
      refine ⟨show i < ((b : Int) - (a : Int)).toNat by omega, fun v A'' hyl => ?_⟩
      obtain ⟨rfl, rfl⟩ := hyl
      exact ⟨G', .refl e4, by rw [← ed]; show V.int _ = V.int _; rw [Int.natCast_add]⟩
    · show ((b : Int) - (a : Int)).toNat ≤ i
      rw [List.length_map, List.length_range] at hi
      omega
theorem if_rev {n : Nat} (h : Er K te σ G (.i (n : Int))) (hn : n ≤ 100000) : Itf K (iRevR (tRg1 te)) σ G ((List.range n).map fun i : Nat => Dd.i ((n - 1 - i : Nat) : Int)) := fun G1 A e1 e2 R r =>
  h A (e1.trans e2) _ fun v A2 ea z => by
    obtain rfl : v = V.int (n : Int) := z
    refine ⟨(n : Int), rfl, by omega, by omega, by omega, by omega, r _ G1 A2 (.on e2 ea) fun i G' A' e3 e4 => ⟨fun d hd => ?_, fun hi => ?_⟩⟩
    · have hi : i < n := by
        have := (List.getElem?_eq_some_iff.mp hd).1
        simpa using this
      rw [List.getElem?_map, List.getElem?_range hi] at hd
      have ed := Option.some.inj hd
      refine ⟨show i < ((n : Int) - 0).toNat by omega, fun v A'' hyl => ?_⟩
      obtain ⟨rfl, rfl⟩ := hyl
      refine ⟨G', .refl e4, ?_⟩
      rw [← ed]
      show V.int _ = V.int _
      congr 1
      omega
    · show ((n : Int) - 0).toNat ≤ i
      rw [List.length_map, List.length_range] at hi
      omega
/-! ### xs.insert(i, x); n += e -/
def rIns : V → List V → Hp → VK → Prop := fun x vs H Q => ∃ (l : Addr) (xs : List V) (i : Int) (y : V), x = .ref l ∧ vs = [.int i, y] ∧ H l = some (.lst xs) ∧ xs.length < sizeLine ∧ 0 ≤ i ∧ i < 2 ^ 63 ∧ Q .non (upd H l (.lst (xs.take i.toNat ++ [y] ++ xs.drop i.toNat)))
theorem mt_insN {X : Cx} : MtR X "list.insert" rIns := mt_insert
theorem a_ins {l : Addr} {us : List V} {i : Nat} (hl : H l = some (.lst us)) (ha : Er K tl σ H (.v (.ref l))) (h : Era K tr σ H [.i (i : Int), .v x]) (hz : us.length < 100000) (hi : i ≤ 100000) (k : ∀ H1, Ex H H1 → D.nx σ (upd H1 l (.lst (us.take i ++ [x] ++ us.drop i)))) :
    tDrop (tBM K "list" rIns tl tr) D σ H := ha H (Ex.refl H) _ fun v H1 e1 z1 => by
  obtain rfl : v = .ref l := z1
  have h1 := e1 l _ hl
  refine ⟨Or.inl ⟨rfl, us, sq_of h1⟩, h H1 e1 _ fun vs H2 e2 z => ?_⟩
  rcases z with _ | ⟨rfl, _ | ⟨rfl, _ | _⟩⟩
  refine ⟨l, us, (i : Int), _, rfl, rfl, e2 l _ h1, sz_lt hz, by omega, by omega, ?_⟩
  rw [Int.toNat_natCast]
  exact k H2 (e1.trans e2)
theorem a_aug {i : Nat} {a b : Int} (hi : σ[i]? = some (some (.int a))) (h : Er K te σ H (.i b)) (k : ∀ H1, Ex H H1 → D.nx (σ.set i (some (.int (a + b)))) H1) : tAug i te (ipI fun i j => i + j) D σ H :=
  ⟨_, hi, h H (Ex.refl H) _ fun v H1 e z => by
    obtain rfl : v = .int b := z
    exact ⟨a, b, rfl, rfl, k H1 e⟩⟩
end

/-! ### defs that raise -/
structure HasX (P : Program) (w : World) (K : PySem.W.Frag) (mg : Str → Option Value) (base : Heap) (k : Nat) (x : Str) (ps : List Str) (sp : Sp) : Prop where
  ex : ∃ f fd, mg x = some (.ref f) ∧ PySem.W.keepIn K (.ref f) = true ∧ FnOk P w K mg base (L2N.CX P w) k f fd ps sp ∧ Binds K fd ps []
structure HasXW (P : Program) (w : World) (K : PySem.W.Frag) (mg : Str → Option Value) (base : Heap) (k : Nat) (x : Str) (ps : List Str) (sp : Sp) : Prop where
  ex : ∃ f fd, mg x = some (.ref f) ∧ PySem.W.keepIn K (.ref f) = true ∧ FnOk P w K mg base (L2N.CX P w) k f fd ps sp ∧ ∀ (s : Shared) (ws : List Value), ws.length = ps.length → BindsTo s fd ⟨[], ps.reverse.zip ws⟩ (ps.zip ws.reverse)
theorem Fun.okN {P : Program} {w : World} {K : PySem.W.Frag} {mg : Str → Option Value} {base : Heap} {x qual : Str} {st : Stmt} {f : Addr} {fd : FuncData} {N ps : List Str} {k : Nat} {sp : Sp} (F : Fun K x qual st f fd) (Sc : FnScope N ps (defScope st)) (len : ∀ vs H Q E, sp vs H Q E → vs.length = ps.length)
    (hb : ∀ (cdv : Value) (A : Around) (outer : List Env) (s : Shared) (H : Hp) (vs : List V) (Q : VK) (E : XK), Room k (A.deeper (envOfC qual (defScope st) s.heap.objs.size f cdv)) → sp vs H Q E → ∃ t, PSs (cxOf (L2N.CX P w) P w K mg base N qual (defScope st) f cdv A outer s H E) (defBody st) t ∧ t { nx := fun _ H' => Q .non H', rt := Q } (start N vs) H) :
    FnOk P w K mg base (L2N.CX P w) (k + 1) f fd ps sp := by
  obtain ⟨oc, od, kV, doc, pm, an, cdv, ct, osl, rfl, lk, hcd⟩ := F.ex
  exact fn_of (CX := L2N.CX P w) lk hcd Sc len fun A outer s H vs Q E hr q => hb cdv A outer s H vs Q E hr q
theorem At.hasX {P : Program} {w : World} {K : PySem.W.Frag} {mg : Str → Option Value} {base : Heap} {x : Str} {st : Stmt} {ps : List Str} {k : Nat} {sp : Sp} (h : At K mg x st ps) (hf : ∀ {f fd}, Fun K x x st f fd → FnOk P w K mg base (L2N.CX P w) k f fd ps sp) : HasX P w K mg base k x ps sp := by
  obtain ⟨f, fd, hm, F, b0, _⟩ := h.ex
  exact ⟨f, fd, hm, F.kp, hf F, b0⟩
theorem AtW.hasX {P : Program} {w : World} {K : PySem.W.Frag} {mg : Str → Option Value} {base : Heap} {x : Str} {st : Stmt} {ps : List Str} {k : Nat} {sp : Sp} (h : AtW K mg x st ps) (hf : ∀ {f fd}, Fun K x x st f fd → FnOk P w K mg base (L2N.CX P w) k f fd ps sp) : HasXW P w K mg base k x ps sp := by
  obtain ⟨f, fd, hm, F, b⟩ := h.ex
  exact ⟨f, fd, hm, F.kp, hf F, b⟩
theorem pe_callX {X : Cx} {W : WX} {k : Nat} {x : Str} {ps : List Str} {sp : Sp} {p pos : Pos} {e : Expr} {es : List Expr} {t : TA} (F : HasX X.prog X.w X.K X.mg X.base k x ps sp) (tk : L2N.Takes X W) (hr : Room k X.A) (ha : PA X (e :: es) t) (hg : Gl X x := by rfl) (hdb : (x == ("__debug__" : Str)) = false := by decide)
    (he : starEach (e :: es) X.env = (false, eval e X.env) :: starEach es X.env := by rfl) (hpl : (backTo pos (starEach es X.env)).any (·.1) = false := by rfl) : PE X (.Call (.Name x p) (e :: es) [] pos) (tCallS sp (WE W) t) := by
  obtain ⟨f, fd, hm, hk, F, hb⟩ := F.ex
  exact pe_callS F hr hg hm hk hb (fun σ => L2N.passAt tk σ) ha hdb he hpl
def tCallSW (sp : Sp) (E : L2.St → XK) (t : TA) : TE := fun σ H Q => t σ H fun vs H1 => sp vs.reverse H1 Q (E σ)
theorem pe_callXW {X : Cx} {W : WX} {k : Nat} {ps : List Str} {sp : Sp} {x : Str} {p pos : Pos} {kws : List Keyword} {t : TA} (F : HasXW X.prog X.w X.K X.mg X.base k x ps sp) (tk : L2N.Takes X W) (hr : Room k X.A) (hkw : PK X kws t) (hg : Gl X x := by rfl) (hdb : (x == ("__debug__" : Str)) = false := by decide)
    (hall : (backToKw pos (keywordEach kws X.env)).all (·.1.isSome) = true := by rfl) (hks : (backToKw pos (keywordEach kws X.env)).filterMap (·.1) = ps.reverse := by rfl) (hpl : (backToKw pos (keywordEach kws X.env)).any (·.1.isNone) = false := by rfl) :
    PE X (.Call (.Name x p) [] kws pos) (tCallSW sp (WE W) t) := by
  obtain ⟨f, fd, hm, hk, F, hb⟩ := F.ex
  refine ⟨fun pins s σ H Q I h => wpAny_Call_Name_kw (ld_glob I hg hm (PySem.W.callWith_KW0 (h₀ := X.base) I.ok.mod.kin hk hall (thn (hkw.run pos pins s σ H _ I h) fun ws s2 ⟨zs, H2, I2, rz, q2⟩ => ⟨I2.kIn, ?_⟩) hpl) hdb)⟩
  rw [hks]
  have hl := F.len _ _ _ _ q2
  rw [List.length_reverse] at hl
  have hw : ws.length = ps.length := by rw [← rz.length]; exact hl
  refine wpAny_call (codeAny_mono (F.run X.A X.stack s2 H2 ⟨[], ps.reverse.zip ws⟩ ws.reverse zs.reverse Q (WE W σ) hr I2.env0 (hb s2 ws hw) rz.reverse q2) fun r s' hq => ?_)
  match r, hq with
  | .error e, hq => exact L2N.passAt tk σ pins H2 s2 e s' I2 hq
  | .ok (.ret u), hq => exact I2.after hq
  | .ok .next, hq => exact hq.elim
  | .ok .brk, hq => exact hq.elim
  | .ok .cont, hq => exact hq.elim
/-- a def that answers, or raises -/
def spX (K : PySem.W.Frag) {T : Type} (pre : T → Prop) (args : T → List Dd) (ok : T → Bool) (ret : T → Dd) (er : T → Value → Option Addr → Hp → Prop) : Sp := fun vs H Q E => ∃ a : T, pre a ∧ IsAll K H (args a) vs ∧ (ok a = true → ∀ v H', Ex H H' → Is K H' (ret a) v → Q v H') ∧ (ok a = false → ∀ cls d H', Ex H H' → er a cls d H' → E cls d H')
theorem Fun.okXs {P : Program} {w : World} {K : PySem.W.Frag} {mg : Str → Option Value} {base : Heap} {x qual : Str} {st : Stmt} {f : Addr} {fd : FuncData} {N ps : List Str} {k : Nat} {T : Type} {pre : T → Prop} {args : T → List Dd} {ok : T → Bool} {ret : T → Dd} {er : T → Value → Option Addr → Hp → Prop} (F : Fun K x qual st f fd) (Sc : FnScope N ps (defScope st)) (hl : ∀ a, (args a).length = ps.length)
    (hb : ∀ (cdv : Value) (A : Around) (outer : List Env) (s : Shared) (H : Hp) (a : T) (vs : List V) (Q : VK) (E : XK), Room k (A.deeper (envOfC qual (defScope st) s.heap.objs.size f cdv)) → pre a → IsAll K H (args a) vs → (ok a = true → ∀ v H', Ex H H' → Is K H' (ret a) v → Q v H') → (ok a = false → ∀ cls d H', Ex H H' → er a cls d H' → E cls d H') →
      ∃ t, PSs (cxOf (L2N.CX P w) P w K mg base N qual (defScope st) f cdv A outer s H E) (defBody st) t ∧ t { nx := fun _ H' => Q .non H', rt := Q } (start N vs) H) : FnOk P w K mg base (L2N.CX P w) (k + 1) f fd ps (spX K pre args ok ret er) :=
  Fun.okN F Sc (fun vs H Q E ⟨a, _, hv, _⟩ => by rw [← hv.len, hl]) fun cdv A outer s H vs Q E hr ⟨a, hp, hv, h1, h2⟩ => hb cdv A outer s H a vs Q E hr hp hv h1 h2
section
variable {K : PySem.W.Frag} {σ : L2.St} {G H A : Hp} {te : TE} {tr : TA} {d : Dd} {D : Ends} {tu tz : TS} {W : WX} {T : Type} {pre : T → Prop} {args : T → List Dd} {ok : T → Bool} {ret : T → Dd} {er : T → Value → Option Addr → Hp → Prop}
theorem x_ret {ds : List Dd} (a : T) (h : Era K tr σ H ds) (hd : ds = args a) (hp : pre a) (h1 : ok a = true → ∀ v H', Ex H H' → Is K H' (ret a) v → D.rt v H') (h2 : ok a = false → ∀ cls d H', Ex H H' → er a cls d H' → W cls d σ H') : tRet (tCallS (spX K pre args ok ret er) (WE W) tr) D σ H :=
  h H (Ex.refl H) _ fun vs H1 e z => ⟨a, hp, hd ▸ z, fun q v H' e2 hv => h1 q v H' (e.trans e2) hv, fun q cls d H' e2 hv => h2 q cls d H' (e.trans e2) hv⟩
theorem x_retW {ds : List Dd} (a : T) (h : Era K tr σ H ds) (hd : ds.reverse = args a) (hp : pre a) (h1 : ok a = true → ∀ v H', Ex H H' → Is K H' (ret a) v → D.rt v H') (h2 : ok a = false → ∀ cls d H', Ex H H' → er a cls d H' → W cls d σ H') : tRet (tCallSW (spX K pre args ok ret er) (WE W) tr) D σ H :=
  h H (Ex.refl H) _ fun vs H1 e z => ⟨a, hp, hd ▸ isAll_rev z, fun q v H' e2 hv => h1 q v H' (e.trans e2) hv, fun q cls d H' e2 hv => h2 q cls d H' (e.trans e2) hv⟩
theorem x_drop {ds : List Dd} (a : T) (h : Era K tr σ H ds) (hd : ds = args a) (hp : pre a) (h1 : ok a = true → ∀ H', Ex H H' → D.nx σ H') (h2 : ok a = false → ∀ cls d H', Ex H H' → er a cls d H' → W cls d σ H') : tDrop (tCallS (spX K pre args ok ret er) (WE W) tr) D σ H :=
  h H (Ex.refl H) _ fun vs H1 e z => ⟨a, hp, hd ▸ z, fun q v H' e2 hv => h1 q H' (e.trans e2), fun q cls d H' e2 hv => h2 q cls d H' (e.trans e2) hv⟩
/-- where it is known that it answers -/
theorem er_callX {ds : List Dd} (a : T) (h : Era K tr σ H ds) (hd : ds = args a) (hp : pre a) (ho : ok a = true) : Er K (tCallS (spX K pre args ok ret er) (WE W) tr) σ H (ret a) := fun H1 e Q q =>
  h H1 e _ fun vs H2 e2 z => ⟨a, hp, hd ▸ z, fun _ v H' e3 hv => q v H' (e2.trans e3) hv, fun z => by rw [ho] at z; cases z⟩
end
end Mi

set_option maxHeartbeats 2000000
namespace Mi
open PySem PySem.Spec PyProof.Rows L2 Evl
/-! ### two neighbours exchanged, again and again -/
abbrev Row := List (List Nat)
def exch (r : Row) (a : Nat) : Row := r.take a ++ [r.getD (a + 1) [], r.getD a []] ++ r.drop (a + 2)
theorem exch_form {p s : Row} {m x : List Nat} : exch (p ++ m :: x :: s) p.length = p ++ x :: m :: s := by
  unfold exch
  have h1 : (p ++ m :: x :: s).take p.length = p := by simp
  have h2 : (p ++ m :: x :: s).getD (p.length + 1) [] = x := by
    rw [List.getD_eq_getElem?_getD, List.getElem?_append_right (by omega)]
    simp
  have h3 : (p ++ m :: x :: s).getD p.length [] = m := by
    rw [List.getD_eq_getElem?_getD, List.getElem?_append_right (by omega)]
    simp
  have h4 : (p ++ m :: x :: s).drop (p.length + 2) = s := by
    rw [List.drop_append]
    simp
  rw [h1, h2, h3, h4]
  simp
/-- after i exchanges from place a on -/
def stE (r : Row) (a : Nat) : Nat → Row
  | 0 => r
  | i + 1 => exch (stE r a i) (a + i)
theorem stE_form {q b s : Row} {m : List Nat} : ∀ i, i ≤ b.length → stE (q ++ m :: (b ++ s)) q.length i = q ++ (b.take i ++ m :: (b.drop i ++ s))
  | 0, _ => by simp [stE]
  | i + 1, h => by
    have hi : i < b.length := by omega
    rw [stE, stE_form i (by omega)]
    have e : b.drop i = b[i] :: b.drop (i + 1) := List.drop_eq_getElem_cons hi
    have e2 : q ++ (b.take i ++ m :: (b.drop i ++ s)) = (q ++ b.take i) ++ m :: b[i] :: (b.drop (i + 1) ++ s) := by
      have e0 : b.drop i ++ s = b[i] :: (b.drop (i + 1) ++ s) := by rw [e, List.cons_append]
      rw [e0, List.append_assoc]
    have e3 : q.length + i = (q ++ b.take i).length := by
      rw [List.length_append, List.length_take]
      omega
    rw [e2, e3, exch_form]
    have e4 : b.take (i + 1) = b.take i ++ [b[i]] := by
      rw [List.take_add_one, List.getElem?_eq_getElem hi]
      rfl
    rw [e4, List.append_assoc, List.append_assoc]
    rfl
def exTo (r : Row) (n : List Nat) (pl : Nat) : List Row := (List.range (pl - r.idxOf n)).map fun j => stE r (r.idxOf n) (j + 1)
def lastR (w : List Row) : Row := w.getLastD []
/-- the way after i places, from the last one on -/
def wayN (r g : Row) : Nat → List Row
  | 0 => [r]
  | i + 1 => wayN r g i ++ exTo (lastR (wayN r g i)) (g.getD (g.length - 1 - i) []) (g.length - 1 - i)

/-! ### the number of pairs that stand the other way round -/
def invN (g : Row) : Row → Nat
  | [] => 0
  | a :: r => (r.filter fun b => decide (g.idxOf b < g.idxOf a)).length + invN g r
structure Sw (g : Row) (Z Z' : Row) : Prop where
  ex : ∃ p m x s gp suf t, Z = p ++ m :: x :: s ∧ Z' = p ++ x :: m :: s ∧ g.idxOf x < g.idxOf m ∧ g = gp ++ m :: suf ∧ s = t ++ suf
theorem inv_sw {g : Row} {m x : List Nat} {s : Row} (h : g.idxOf x < g.idxOf m) : ∀ p : Row, invN g (p ++ m :: x :: s) = invN g (p ++ x :: m :: s) + 1
  | [] => by
    have h2 : ¬ g.idxOf m < g.idxOf x := by omega
    simp only [List.nil_append, invN, List.filter_cons, h, h2, decide_true, decide_false, if_true, Bool.false_eq_true, if_false, List.length_cons]
    omega
  | a :: p => by
    have e : ((p ++ m :: x :: s).filter fun b => decide (g.idxOf b < g.idxOf a)).length = ((p ++ x :: m :: s).filter fun b => decide (g.idxOf b < g.idxOf a)).length := by
      refine List.Perm.length_eq (List.Perm.filter _ (List.Perm.append_left _ ?_))
      exact List.Perm.swap x m s
    have ih := inv_sw (s := s) h p
    rw [List.cons_append, List.cons_append, invN, invN, e, ih]
    omega
theorem Sw.inv {g Z Z' : Row} (h : Sw g Z Z') : invN g Z = invN g Z' + 1 := by
  obtain ⟨p, m, x, s, gp, suf, t, rfl, rfl, hx, _⟩ := h.ex
  exact inv_sw hx p
theorem Sw.perm {g Z Z' : Row} (h : Sw g Z Z') : Z'.Perm Z := by
  obtain ⟨p, m, x, s, gp, suf, t, rfl, rfl, hx, _⟩ := h.ex
  exact List.Perm.append_left _ (List.Perm.swap m x s)
theorem inv_self {g : Row} (hn : g.Nodup) : invN g g = 0 := by
  suffices h : ∀ s p : Row, g = p ++ s → invN g s = 0 from h g [] rfl
  intro s
  induction s with
  | nil => intro p _; rfl
  | cons a s ih =>
    intro p e
    have h1 := ih (p ++ [a]) (by rw [e]; simp)
    have ia : g.idxOf a = p.length := by
      have hna : a ∉ p := by
        rw [e] at hn
        exact fun z => (List.nodup_append.mp hn).2.2 a z a (List.mem_cons_self ..) rfl
      rw [e, List.idxOf_append, if_neg hna, List.idxOf_cons_self]
      simp
    have h2 : (s.filter fun b => decide (g.idxOf b < g.idxOf a)) = [] := by
      rw [List.filter_eq_nil_iff]
      intro b hb
      have hnb : b ∉ p ++ [a] := by
        rw [e] at hn
        have e2 : p ++ a :: s = (p ++ [a]) ++ s := by simp
        rw [e2] at hn
        exact fun z => (List.nodup_append.mp hn).2.2 b z b hb rfl
      have ib : p.length + 1 ≤ g.idxOf b := by
        rw [e, show p ++ a :: s = (p ++ [a]) ++ s by simp, List.idxOf_append, if_neg hnb]
        simp
      rw [ia]
      simp
      omega
    show _ + invN g s = 0
    rw [h1, h2]
    rfl
/-! ### the law's own count of these pairs -/
def turnN (r g : Row) : Nat := (r.map fun low => (r.filter fun high => decide (r.idxOf low < r.idxOf high) && decide (g.idxOf low > g.idxOf high)).length).sum
theorem turn_inv {g : Row} : ∀ {r : Row}, r.Nodup → turnN r g = invN g r
  | [], _ => rfl
  | a :: r, hn => by
    obtain ⟨ha, hr⟩ := List.nodup_cons.mp hn
    have ih := turn_inv (g := g) hr
    have ne : ∀ b ∈ r, b ≠ a := fun b hb z => ha (z ▸ hb)
    have idx : ∀ b ∈ r, (a :: r).idxOf b = r.idxOf b + 1 := fun b hb => by
      have : (a == b) = false := by simpa using fun z : a = b => ne b hb z.symm
      rw [List.idxOf_cons, this]
      rfl
    have ia : (a :: r).idxOf a = 0 := List.idxOf_cons_self
    unfold turnN
    rw [List.map_cons, List.sum_cons, invN]
    congr 1
    · rw [List.filter_cons, ia, if_neg (by simp)]
      congr 1
      refine List.filter_congr fun b hb => ?_
      rw [idx b hb]
      simp
    · rw [← ih]
      unfold turnN
      congr 1
      refine List.map_congr_left fun low hl => ?_
      rw [List.filter_cons, ia, if_neg (by simp)]
      congr 1
      refine List.filter_congr fun b hb => ?_
      rw [idx b hb, idx low hl]
      simp
/-! ### the way is a chain of such exchanges -/
theorem lastR_app {l : List Row} {b : Row} : lastR (l ++ [b]) = b := by
  unfold lastR
  rw [List.getLastD_concat]
theorem lastR_at {l : List Row} (h : l ≠ []) : l[l.length - 1]? = some (lastR l) := by
  unfold lastR
  rw [← List.getLast?_eq_getElem?, List.getLastD_eq_getLast?]
  cases q : l.getLast? with
  | none => exact absurd (List.getLast?_eq_none_iff.mp q) h
  | some x => rfl
structure ChW (g row : Row) (l : List Row) : Prop where
  z : l[0]? = some row
  c : ∀ k a b, l[k]? = some a → l[k + 1]? = some b → Sw g a b
theorem ChW.ne {g row : Row} {l : List Row} (h : ChW g row l) : l ≠ [] := fun e => by
  have := h.z
  rw [e] at this
  cases this
theorem ChW.push {g row b : Row} {l : List Row} (h : ChW g row l) (hs : Sw g (lastR l) b) : ChW g row (l ++ [b]) := by
  have hl : 0 < l.length := List.length_pos_iff.mpr h.ne
  refine ⟨by rw [List.getElem?_append_left hl]; exact h.z, fun k x y hx hy => ?_⟩
  by_cases q : k + 1 < l.length
  · rw [List.getElem?_append_left q] at hy
    rw [List.getElem?_append_left (by omega)] at hx
    exact h.c k x y hx hy
  · have hk : k + 1 = l.length := by
      have := (List.getElem?_eq_some_iff.mp hy).1
      rw [List.length_append, List.length_singleton] at this
      omega
    rw [hk, List.getElem?_append_right (by omega), Nat.sub_self] at hy
    obtain rfl : b = y := Option.some.inj hy
    rw [List.getElem?_append_left (by omega), show k = l.length - 1 by omega, lastR_at h.ne] at hx
    rw [← Option.some.inj hx]
    exact hs
/-- one place of the way: m goes to its place -/
structure WyP (g r : Row) (pl : Nat) (q b suf : Row) (m : List Nat) : Prop where
  e : r = q ++ m :: (b ++ suf)
  gg : g = g.take pl ++ m :: suf
  p : (q ++ b).Perm (g.take pl)
  l : pl < g.length
  n : g.Nodup
section
variable {g r : Row} {pl : Nat} {q b suf : Row} {m : List Nat}
theorem WyP.len (h : WyP g r pl q b suf m) : q.length + b.length = pl := by
  have := h.p.length_eq
  rw [List.length_append, List.length_take] at this
  have := h.l
  omega
theorem WyP.mg (h : WyP g r pl q b suf m) : m ∉ g.take pl := by
  have hn := h.n
  rw [h.gg] at hn
  exact fun z => (List.nodup_append.mp hn).2.2 m z m (List.mem_cons_self ..) rfl
theorem WyP.im (h : WyP g r pl q b suf m) : g.idxOf m = pl := by
  have hm := h.mg
  have hl := h.l
  generalize hg : g.take pl = t at hm
  have e := h.gg
  rw [hg] at e
  rw [e, List.idxOf_append, if_neg hm, List.idxOf_cons_self, ← hg, List.length_take]
  omega
theorem WyP.ix (h : WyP g r pl q b suf m) {x : List Nat} (hx : x ∈ b) : g.idxOf x < pl := by
  have h1 : x ∈ g.take pl := h.p.mem_iff.mp (List.mem_append_right _ hx)
  have e := h.gg
  generalize hg : g.take pl = t at h1 e
  have h2 := List.idxOf_lt_length_of_mem h1
  have h3 : g.idxOf x = t.idxOf x := by rw [e, List.idxOf_append, if_pos h1]
  rw [h3]
  have : t.length ≤ pl := by rw [← hg, List.length_take]; exact Nat.min_le_left _ _
  omega
theorem WyP.mq (h : WyP g r pl q b suf m) : m ∉ q ∧ m ∉ b := by
  have hm := h.mg
  exact ⟨fun z => hm (h.p.mem_iff.mp (List.mem_append_left _ z)), fun z => hm (h.p.mem_iff.mp (List.mem_append_right _ z))⟩
theorem WyP.st (h : WyP g r pl q b suf m) {j : Nat} (hj : j ≤ b.length) : stE r q.length j = q ++ (b.take j ++ m :: (b.drop j ++ suf)) := by
  rw [h.e]
  exact stE_form j hj
theorem WyP.at (h : WyP g r pl q b suf m) {j : Nat} (hj : j ≤ b.length) : (stE r q.length j).idxOf m = q.length + j := by
  obtain ⟨h1, h2⟩ := h.mq
  rw [h.st hj, List.idxOf_append, if_neg h1, List.idxOf_append, if_neg (fun z => h2 (List.mem_of_mem_take z)), List.idxOf_cons_self, List.length_take]
  omega
theorem WyP.ir (h : WyP g r pl q b suf m) : r.idxOf m = q.length := by
  have := h.at (j := 0) (by omega)
  exact this
theorem WyP.sw (h : WyP g r pl q b suf m) {j : Nat} (hj : j < b.length) : Sw g (stE r q.length j) (stE r q.length (j + 1)) := by
  have e := List.drop_eq_getElem_cons hj
  refine ⟨q ++ b.take j, m, b[j], b.drop (j + 1) ++ suf, g.take pl, suf, b.drop (j + 1), ?_, ?_, ?_, h.gg, rfl⟩
  · rw [h.st (by omega), e, List.append_assoc, List.cons_append]
  · have e2 : b.take (j + 1) = b.take j ++ [b[j]] := by rw [List.take_add_one, List.getElem?_eq_getElem hj]; rfl
    rw [h.st (by omega), e2, List.append_assoc, List.append_assoc]
    rfl
  · rw [h.im]
    exact h.ix (List.getElem_mem hj)
/-- the rows of one place -/
def exJ (r : Row) (a j : Nat) : List Row := (List.range j).map fun j => stE r a (j + 1)
theorem exJ_next {r : Row} {a j : Nat} : exJ r a (j + 1) = exJ r a j ++ [stE r a (j + 1)] := by
  unfold exJ
  rw [List.range_succ, List.map_append]
  rfl
theorem WyP.chain {row : Row} {l : List Row} (h : WyP g r pl q b suf m) (hc : ChW g row l) (hl : lastR l = r) : ∀ j, j ≤ b.length → ChW g row (l ++ exJ r q.length j) ∧ lastR (l ++ exJ r q.length j) = stE r q.length j
  | 0, _ => by
    show ChW g row (l ++ []) ∧ lastR (l ++ []) = r
    rw [List.append_nil]
    exact ⟨hc, hl⟩
  | j + 1, hj => by
    obtain ⟨h1, h2⟩ := WyP.chain h hc hl j (by omega)
    rw [exJ_next, ← List.append_assoc]
    exact ⟨h1.push (by rw [h2]; exact h.sw (by omega)), lastR_app⟩
theorem WyP.exTo (h : WyP g r pl q b suf m) : exTo r m pl = exJ r q.length b.length := by
  unfold Mi.exTo exJ
  rw [h.ir, show pl - q.length = b.length by have := h.len; omega]
end
structure WyI (g row : Row) (i : Nat) (l : List Row) : Prop where
  f : ∃ f, lastR l = f ++ g.drop (g.length - i) ∧ f.Perm (g.take (g.length - i))
  c : ChW g row l
theorem WyI.place {g row : Row} {i : Nat} {l : List Row} (h : WyI g row i l) (hn : g.Nodup) (hi : i < g.length) : ∃ q b suf, WyP g (lastR l) (g.length - 1 - i) q b suf (g.getD (g.length - 1 - i) []) ∧ suf = g.drop (g.length - i) := by
  obtain ⟨f, e, p⟩ := h.f
  have hp : g.length - 1 - i < g.length := by omega
  have eg : g.getD (g.length - 1 - i) [] = g[g.length - 1 - i] := by rw [List.getD_eq_getElem?_getD, List.getElem?_eq_getElem hp]; rfl
  have et : g.take (g.length - i) = g.take (g.length - 1 - i) ++ [g[g.length - 1 - i]] := by
    rw [show g.length - i = (g.length - 1 - i) + 1 by omega, List.take_add_one, List.getElem?_eq_getElem hp]
    rfl
  have hm : g[g.length - 1 - i] ∈ f := p.mem_iff.mpr (by rw [et]; exact List.mem_append_right _ (List.mem_singleton.mpr rfl))
  obtain ⟨q, b, hf⟩ := List.append_of_mem hm
  refine ⟨q, b, g.drop (g.length - i), ⟨?_, ?_, ?_, hp, hn⟩, rfl⟩
  · rw [e, hf, eg, List.append_assoc, List.cons_append]
  · rw [eg]
    have : g.drop (g.length - 1 - i) = g[g.length - 1 - i] :: g.drop (g.length - i) := by
      rw [List.drop_eq_getElem_cons hp, show g.length - 1 - i + 1 = g.length - i by omega]
    rw [← this, List.take_append_drop]
  · rw [hf, et] at p
    have p2 : (g[g.length - 1 - i] :: (q ++ b)).Perm (g[g.length - 1 - i] :: g.take (g.length - 1 - i)) := by
      refine (List.perm_middle.symm.trans p).trans ?_
      have := List.perm_middle (a := g[g.length - 1 - i]) (l₁ := g.take (g.length - 1 - i)) (l₂ := [])
      rw [List.append_nil] at this
      exact this
    exact p2.cons_inv
theorem WyI.next {g row : Row} {i : Nat} {l : List Row} (h : WyI g row i l) (hn : g.Nodup) (hi : i < g.length) : WyI g row (i + 1) (l ++ exTo (lastR l) (g.getD (g.length - 1 - i) []) (g.length - 1 - i)) := by
  obtain ⟨q, b, suf, hp, hs⟩ := h.place hn hi
  obtain ⟨h1, h2⟩ := hp.chain h.c rfl b.length (Nat.le_refl _)
  rw [hp.exTo]
  refine ⟨⟨q ++ b, ?_, by rw [show g.length - (i + 1) = g.length - 1 - i by omega]; exact hp.p⟩, h1⟩
  rw [h2, hp.st (Nat.le_refl _), List.take_length, List.drop_length, List.nil_append, List.append_assoc]
  have : g.drop (g.length - (i + 1)) = g.getD (g.length - 1 - i) [] :: suf := by
    have e := hp.gg
    rw [show g.length - (i + 1) = g.length - 1 - i by omega]
    have e2 : g.take (g.length - 1 - i) ++ g.drop (g.length - 1 - i) = g.take (g.length - 1 - i) ++ g.getD (g.length - 1 - i) [] :: suf := by
      rw [List.take_append_drop]
      exact e
    exact List.append_cancel_left e2
  rw [this]
theorem way_inv {g row : Row} (hn : g.Nodup) (hp : row.Perm g) : ∀ i, i ≤ g.length → WyI g row i (wayN row g i)
  | 0, _ => ⟨⟨row, by rw [Nat.sub_zero, List.drop_length, List.append_nil]; rfl, by rw [Nat.sub_zero, List.take_length]; exact hp⟩, ⟨rfl, fun k a b h1 h2 => by cases h2⟩⟩
  | i + 1, h => (way_inv hn hp i (by omega)).next hn (by omega)
theorem way_end {g row : Row} (hn : g.Nodup) (hp : row.Perm g) : ChW g row (wayN row g g.length) ∧ lastR (wayN row g g.length) = g := by
  have h := way_inv hn hp g.length (Nat.le_refl _)
  obtain ⟨f, e, p⟩ := h.f
  rw [Nat.sub_self] at e p
  have : f = [] := by
    have := p.length_eq
    rw [List.take_zero] at this
    exact List.length_eq_zero_iff.mp this
  refine ⟨h.c, ?_⟩
  rw [e, this, List.drop_zero, List.nil_append]
theorem ChW.inv {g row : Row} {l : List Row} (h : ChW g row l) : ∀ k Z, l[k]? = some Z → invN g Z + k = invN g row ∧ Z.Perm row
  | 0, Z, hz => by
    rw [h.z] at hz
    rw [Option.some.inj hz]
    exact ⟨rfl, .refl _⟩
  | k + 1, Z, hz => by
    have hk : k < l.length := by
      have := (List.getElem?_eq_some_iff.mp hz).1
      omega
    obtain ⟨h1, h2⟩ := h.inv k l[k] (List.getElem?_eq_getElem hk)
    have hs := h.c k l[k] Z (List.getElem?_eq_getElem hk) hz
    have := hs.inv
    exact ⟨by omega, hs.perm.trans h2⟩
theorem way_len {g row : Row} (hn : g.Nodup) (hp : row.Perm g) : (wayN row g g.length).length = invN g row + 1 := by
  obtain ⟨h1, h2⟩ := way_end hn hp
  have h3 := h1.inv _ _ (lastR_at h1.ne)
  have h4 : 0 < (wayN row g g.length).length := List.length_pos_iff.mpr h1.ne
  rw [h2, inv_self hn] at h3
  omega
/-! ### a cell's last mark along the way -/
def lastM (f : List Nat → Nat) (b : Nat) (r : Row) : Nat := r.foldl (fun b n => if f n = 45 then b else f n) b
theorem lastM_app {f : List Nat → Nat} {b : Nat} {p s : Row} : lastM f b (p ++ s) = lastM f (lastM f b p) s := by
  unfold lastM
  rw [List.foldl_append]
theorem lastM_dash {f : List Nat → Nat} : ∀ {s : Row} (b : Nat), (∀ n ∈ s, f n = 45) → lastM f b s = b
  | [], _, _ => rfl
  | n :: s, b, h => by
    show lastM f (if f n = 45 then b else f n) s = b
    rw [if_pos (h n (List.mem_cons_self ..))]
    exact lastM_dash b fun x hx => h x (List.mem_cons_of_mem _ hx)
theorem lastM_any {f : List Nat → Nat} : ∀ {s : Row} (a b : Nat), (∃ n ∈ s, f n ≠ 45) → lastM f a s = lastM f b s
  | [], _, _, h => by obtain ⟨n, hn, _⟩ := h; cases hn
  | n :: s, a, b, h => by
    show lastM f (if f n = 45 then a else f n) s = lastM f (if f n = 45 then b else f n) s
    by_cases q : f n = 45
    · rw [if_pos q, if_pos q]
      obtain ⟨x, hx, hq⟩ := h
      rcases List.mem_cons.mp hx with rfl | hx
      · exact absurd q hq
      · exact lastM_any a b ⟨x, hx, hq⟩
    · rw [if_neg q, if_neg q]
theorem Sw.cell {g Z Z' : Row} (h : Sw g Z Z') (f : List Nat → Nat) (b : Nat) : lastM f b Z' = lastM f b Z ∨ lastM f b Z' = lastM f b g := by
  obtain ⟨p, m, x, s, gp, suf, t, rfl, rfl, hx, hg, hs⟩ := h.ex
  have e1 : p ++ x :: m :: s = (p ++ [x, m]) ++ s := by rw [List.append_assoc]; rfl
  have e2 : p ++ m :: x :: s = (p ++ [m, x]) ++ s := by rw [List.append_assoc]; rfl
  by_cases q : ∃ n ∈ s, f n ≠ 45
  · left
    rw [e1, e2, lastM_app (p := p ++ [x, m]), lastM_app (p := p ++ [m, x])]
    exact lastM_any _ _ q
  · have hd : ∀ n ∈ s, f n = 45 := fun n hn => Decidable.byContradiction fun z => q ⟨n, hn, z⟩
    rw [e1, e2, lastM_app (p := p ++ [x, m]), lastM_app (p := p ++ [m, x]), lastM_dash _ hd, lastM_dash _ hd, lastM_app, lastM_app]
    by_cases qm : f m = 45
    · left
      simp [lastM, qm]
    · right
      have hds : ∀ n ∈ suf, f n = 45 := fun n hn => hd n (by rw [hs]; exact List.mem_append_right _ hn)
      rw [hg, lastM_app]
      show _ = lastM f (if f m = 45 then _ else f m) suf
      rw [if_neg qm, lastM_dash _ hds]
      simp [lastM, qm]
theorem ChW.cell {g row : Row} {l : List Row} (h : ChW g row l) (f : List Nat → Nat) (b : Nat) : ∀ (k : Nat) (Z : Row), l[k]? = some Z → lastM f b Z = lastM f b row ∨ lastM f b Z = lastM f b g
  | 0, Z, hz => by
    rw [h.z] at hz
    rw [Option.some.inj hz]
    exact .inl rfl
  | k + 1, Z, hz => by
    have hk : k < l.length := by
      have := (List.getElem?_eq_some_iff.mp hz).1
      omega
    rcases (h.c k l[k] Z (List.getElem?_eq_getElem hk) hz).cell f b with q | q
    · rw [q]
      exact ChW.cell h f b k l[k] (List.getElem?_eq_getElem hk)
    · exact .inr q
end Mi

set_option maxHeartbeats 2000000
namespace Mi
open PySem PySem.Spec PyProof.Rows L2 Evl
theorem takes0N {X : Cx} : L2N.Takes X (fun _ _ _ _ => False) := fun _ _ x => by
  obtain ⟨_, _, _, _, _, _, _, _, _, _, _, _, _, _, _, _, z⟩ := x
  exact z.elim
/-! ### C(e, ..), C an own exception class with an __init__ that is a def of the text -/
theorem pmk_oexN {X : Cx} {x : Str} {e : Expr} {es : List Expr} {ta : TA} {p pos : Pos} {C fI : Addr} {k : Nat} {fd : FuncData} {ps : List Str} {sp : Sp} (T : OexC X.K C) (iC : PySem.W.findIn X.K (.ref C) "__init__" = some (some (.ref fI))) (tI : PySem.W.typeIn X.K (.ref fI) = some (.type "function"))
    (F1 : FnOk X.prog X.w X.K X.mg X.base CX0 k fI fd ps sp) (hr : Room (k + 1) X.A) (hb : Binds X.K fd ps []) (hm : X.mg x = some (.ref C)) (ha : PA X (e :: es) ta) (hg : Gl X x := by rfl)
    (hdb : (x == ("__debug__" : Str)) = false := by decide) (he : starEach (e :: es) X.env = (false, eval e X.env) :: starEach es X.env := by rfl) (hpl : (backTo pos (starEach es X.env)).any (·.1) = false := by rfl) :
    L2N.PMk X (.Call (.Name x p) (e :: es) [] pos) (tMkO C sp [] ta) := fun pins s σ H Q I h => by
  obtain ⟨nm, q, N, bs, bm, sn, sub, ab, col, dd, k0, k1, k2, k3, k5, hC, hbm⟩ := T.cls
  refine wpAny_Call_Name_kw (ld_glob I hg hm (PySem.W.callWith_K (h₀ := X.base) I.ok.mod.kin T.kC (thn (ha.run pos pins s σ H _ I h) fun us s1 ⟨vs, H1, I1, r1, hz, q1⟩ => ⟨I1.kIn, ?_⟩) he hpl) hdb)
  show wpAny _ _ (call (.ref C) us) _ _ _
  obtain ⟨hp, g, dr, tk, os⟩ := s1
  generalize ha0 : hp.objs.size + 1 = a
  have hsz : hp.objs.size ≤ a := by rw [← ha0]; exact Nat.le_succ _
  have hq := q1 a (I1.hok.fresh hsz)
  rw [List.append_nil] at hq
  have kk : ∀ b o, hp.get? b = some o → ((hp.push (PySem.W.kdv_tup us)).push (PySem.HandSPX.excO C hp.objs.size)).get? b = some o := fun b o e => Heap.get?_push_of_some _ (Heap.get?_push_of_some _ e)
  have hget : ((hp.push (PySem.W.kdv_tup us)).push (PySem.HandSPX.excO C hp.objs.size)).get? a = some (PySem.HandSPX.excO C hp.objs.size) := by rw [← ha0]; heap_get
  have I2 := I1.laid (t' := tk) (a := a) (o := exo a C none) (h' := (hp.push (PySem.W.kdv_tup us)).push (PySem.HandSPX.excO C hp.objs.size)) kk hsz (exo_ok hget)
  have r2 : Vals (V.ref a :: vs) (Value.ref a :: us) := .cons rfl r1
  have hl : (Value.ref a :: us ++ []).length = ps.length := by
    have e := r2.length
    rw [F1.len _ _ _ _ hq] at e
    rw [List.append_nil]
    exact e.symm
  have hus : us.length ≤ sizeLine := by rw [← Paired.length r1, sizeLine_eq]; omega
  have b2 := hb _ (Value.ref a :: us) I2.kIn hl
  rw [List.append_nil] at b2
  refine wpAny_call (PySem.HandSPX.call_own F.excBase_ValueError (fun Y => PySem.HandSPX.refsVE_contains Y bm hbm) (I1.kIn _ _ hC) (PySem.W.looks_findIn I1.kIn iC) (fun self => PySem.W.bind_fn I1.kIn self tI) hus (by
    rw [ha0]
    exact codeAny_mono (F1.run _ X.stack _ _ ⟨Value.ref a :: us, []⟩ (Value.ref a :: us) _ _ (fun _ _ _ => False) (hr.make C us []) (I2.env0.make C us []) b2 r2 hq) fun r s' hq' => by
      match r, hq' with
      | .error er, hq' => exact hq'.elim
      | .ok .next, hq' => exact hq'.elim
      | .ok .brk, hq' => exact hq'.elim
      | .ok .cont, hq' => exact hq'.elim
      | .ok (.ret u), hq' =>
        obtain ⟨v, H2, os2, bare2, un2, hok2, rv, ev, d, fs, ea, ed, hd1, q2⟩ := hq'
        subst ev
        obtain ⟨h2, g2, d2, t2, os'⟩ := s'
        obtain ⟨t0, G, J, kG, ge, hoe, na⟩ := mk_end0 (d2 := d2) (t2 := t2) I1 hsz kk un2 hok2 os2 bare2 ea ed hd1
        exact ⟨rv, a, _, _, ⟨G, g2, d2, t2, os'⟩, _, .ref C, some d, rfl, J, kG, ge, hoe, ⟨rfl, rfl, fun vs hv => by cases hv; rfl⟩, rfl, rfl, na, rfl, bare2, raises_own T.exC T.tyC, q2⟩))

/-! ### isinstance(e, c), e the exception that the suite holds, with fields of its own -/
structure ExdC (K : PySem.W.Frag) (D : Addr) : Prop where
  hcl : (PySem.W.clsIn K D).isSome = true
  hga : PySem.W.findIn K (.ref D) "__getattribute__" = some (some (.builtin "BaseException.__getattribute__"))
  hgt : PySem.W.findIn K (.ref D) "__getattr__" = some none
  hsub : PySem.W.subIn K (.ref D) (.type "BaseException") = some true
  ha : PySem.W.findIn K (.ref D) "__class__" = some (some (.builtin "object.__class__"))
  hn : PySem.W.specialIn K (.builtin "object.__class__") "__get__" = some (some (.builtin "getset_descriptor.__get__"))
  ht : PySem.W.takesIn K (.builtin "object.__class__") = some true
  hm : PySem.W.mroIn K D (.type "object") = some true
def rIsX (K : PySem.W.Frag) (a : Addr) (cls : Value) (d : Option Addr) : List V → Hp → VK → Prop := fun xs H Q => ∃ (c : V) (cv : Value) (b : Bool) (D dd : Addr) (fs : List (Str × V)), xs = [.ref a, c] ∧ cls = .ref D ∧ d = some dd ∧ H dd = some (.xd fs) ∧ ExdC K D ∧ (∀ u, RelV c u → u = cv) ∧ PySem.W.kitOne K (.ref D) cv = some b ∧ Q (.bl b) H
theorem call_isX {X : Cx} {a : Addr} {oe : Obj} {cls : Value} {d : Option Addr} {pn : List (Addr × Obj)} (hz : Zc cls d oe) (hf : ∃ vs, oe.data = .fields vs) : CallR (X.suite a ((a, oe) :: pn)) (.builtin "isinstance") (rIsX X.K a cls d) := by
  rintro pins s σ H xs us Q I r ⟨c, cv, b, D, dd, fs, rfl, rfl, rfl, hdd, C, hcv, e, q⟩
  obtain ⟨u1, u2, rfl, ru1, ru2⟩ := vals2 r
  obtain rfl : u1 = Value.ref a := ru1
  obtain rfl := hcv _ ru2
  obtain ⟨hget, _⟩ := I.pin (a, oe) (List.mem_append_left _ List.mem_cons_self)
  obtain ⟨vs, hv⟩ := hf
  have hx : ObjOk X.prog X.w H s.heap dd (.xd fs) := I.hok dd _ hdd
  obtain ⟨mA, hns, _⟩ := hx
  obtain ⟨od, ho, _⟩ := lookIn_ns hns
  have J : PySem.W.InstAt s.heap a oe D (some od) := ⟨hget, hz.1, by unfold PySem.W.notCls; rw [hv] <;> rfl, by rw [hz.2]; exact ho⟩
  exact PySem.W.kia_one (PySem.W.kitx_exc C.hcl C.hga C.hgt C.hsub C.ha C.hn C.ht C.hm) I.kIn J e (fun z => nomatch z) fun tk => ⟨.bl b, H, I.kept (t' := tk) fun _ _ z => z, rfl, q⟩
theorem call_isX_k {X : Cx} {K : PySem.W.Frag} {a : Addr} {oe : Obj} {cls : Value} {d : Option Addr} {pn : List (Addr × Obj)} (hz : Zc cls d oe) (hf : ∃ vs, oe.data = .fields vs) (h : X.K = K := by rfl) : CallR (X.suite a ((a, oe) :: pn)) (.builtin "isinstance") (rIsX K a cls d) := h ▸ call_isX hz hf
/-- own classes in isinstance -/
theorem kit_no {K : PySem.W.Frag} {C D : Addr} (hs : PySem.W.mroIn K C (.ref C) = some true) (hd : (PySem.W.clsIn K D).isSome = true) (ht : PySem.W.typeIn K (.ref D) = some (.type "type")) (h : PySem.W.mroIn K C (.ref D) = some false) : PySem.W.kitOne K (.ref C) (.ref D) = some false := by
  have ne : C ≠ D := fun z => by rw [← z, hs] at h; cases h
  unfold PySem.W.kitOne
  rw [if_neg (by simpa using ne)]
  show (if ((PySem.W.clsIn K D).isSome && PySem.W.typeIn K (.ref D) == some (.type "type")) = true then PySem.W.mroIn K C (.ref D) else none) = some false
  rw [hd, ht, if_pos (by rfl), h]
theorem kit_ve {K : PySem.W.Frag} {C : Addr} (h : PySem.W.mroIn K C (.type "ValueError") = some true) : PySem.W.kitOne K (.ref C) (.type "ValueError") = some true := by
  unfold PySem.W.kitOne
  rw [if_neg (by show ¬ ((Value.ref C == Value.type "ValueError") = true); rw [show (Value.ref C == Value.type "ValueError") = false from rfl]; exact Bool.false_ne_true)]
  show (if PySem.W.kitMeta "ValueError" = true then PySem.W.mroIn K C (.type "ValueError") else none) = _
  rw [if_pos (by decide), h]
theorem exm_is {K : PySem.W.Frag} {C D : Addr} {b : Bool} (h1 : PySem.W.mroIn K D (.type "BaseException") = some true) (hd : (PySem.W.clsIn K D).isSome = true) (ht : PySem.W.typeIn K (.ref D) = some (.type "type")) (h : PySem.W.mroIn K C (.ref D) = some b) : PySem.W.exmOne K (.ref C) (.ref D) = some b := by
  show (if (PySem.W.mroIn K D (.type "BaseException") == some true) = true then (if ((PySem.W.clsIn K D).isSome && PySem.W.typeIn K (.ref D) == some (.type "type")) = true then PySem.W.mroIn K C (.ref D) else none) else none) = some b
  rw [h1, hd, ht, if_pos (by rfl), if_pos (by rfl), h]
/-! ### defs called in an except suite -/
structure HasH (P : Program) (w : World) (K : PySem.W.Frag) (mg : Str → Option Value) (base : Heap) (k : Nat) (x : Str) (ps : List Str) (sp : Sp) : Prop where
  ex : ∃ f fd, mg x = some (.ref f) ∧ PySem.W.keepIn K (.ref f) = true ∧ L2H.FnH P w K mg base CX0 k f fd ps sp ∧ Binds K fd ps []
theorem hotS {X : Cx} {a : Addr} {oe : Obj} {cls : Value} {d : Option Addr} {pn : List (Addr × Obj)} (hz : L2N.Zn cls d oe) (hf : ∃ vs, oe.data = .fields vs) : L2H.HotC (X.suite a ((a, oe) :: pn)) := by
  obtain ⟨vs, hv⟩ := hf
  exact ⟨(a, oe), ⟨rfl, vs, hv, hz.2.2 vs hv⟩, List.mem_cons_self⟩
theorem pe_callHH {X : Cx} {k : Nat} {x : Str} {ps : List Str} {sp : Sp} {p pos : Pos} {e : Expr} {es : List Expr} {t : TA} (F : HasH X.prog X.w X.K X.mg X.base k x ps sp) (hr : L2H.RoomH k X.A) (hc : L2H.HotC X) (ha : PA X (e :: es) t) (hg : Gl X x := by rfl) (hdb : (x == ("__debug__" : Str)) = false := by decide)
    (he : starEach (e :: es) X.env = (false, eval e X.env) :: starEach es X.env := by rfl) (hpl : (backTo pos (starEach es X.env)).any (·.1) = false := by rfl) : PE X (.Call (.Name x p) (e :: es) [] pos) (tCallS sp (fun _ => E0) t) := by
  obtain ⟨f, fd, hm, hk, F, hb⟩ := F.ex
  exact L2H.pe_callH F hr hc hg hm hk hb (fun σ _ _ _ _ _ _ h => h.elim) ha hdb he hpl
theorem Fun.okH {P : Program} {w : World} {K : PySem.W.Frag} {mg : Str → Option Value} {base : Heap} {x qual : Str} {st : Stmt} {f : Addr} {fd : FuncData} {N ps : List Str} {k : Nat} {T : Type} {pre : T → Prop} {args : T → List Dd} {ret : T → Dd} (F : Fun K x qual st f fd) (Sc : FnScope N ps (defScope st)) (hl : ∀ a, (args a).length = ps.length)
    (hb : ∀ (cdv : Value) (A : Around) (outer : List Env) (s : Shared) (H : Hp) (a : T) (vs : List V) (Q : VK) (E : XK) (p : Addr × Obj), L2H.Hot1 A p → L2H.RoomH k (A.deeper (envOfC qual (defScope st) s.heap.objs.size f cdv)) → pre a → IsAll K H (args a) vs → (∀ v H', Ex H H' → Is K H' (ret a) v → Q v H') →
      ∃ t, PSs (L2H.cxH CX0 P w K mg base N qual (defScope st) f cdv A outer s H E p) (defBody st) t ∧ t { nx := fun _ H' => Q .non H', rt := Q } (start N vs) H) : L2H.FnH P w K mg base CX0 (k + 1) f fd ps (spR K pre args ret) := by
  obtain ⟨oc, od, kV, doc, pm, an, cdv, ct, osl, rfl, lk, hcd⟩ := F.ex
  exact L2H.fn_ofH (CX := CX0) lk hcd Sc (fun vs H Q E ⟨a, _, hv, _⟩ => by rw [← hv.len, hl]) fun A outer s H vs Q E p hot hr ⟨a, hp, hv, hk⟩ => hb cdv A outer s H a vs Q E p hot hr hp hv hk
theorem At.hasH {P : Program} {w : World} {K : PySem.W.Frag} {mg : Str → Option Value} {base : Heap} {x : Str} {st : Stmt} {ps : List Str} {k : Nat} {sp : Sp} (h : At K mg x st ps) (hf : ∀ {f fd}, Fun K x x st f fd → L2H.FnH P w K mg base CX0 k f fd ps sp) : HasH P w K mg base k x ps sp := by
  obtain ⟨f, fd, hm, F, b0, _⟩ := h.ex
  exact ⟨f, fd, hm, F.kp, hf F, b0⟩
theorem hotD {CX : CXT} {P : Program} {w : World} {K : PySem.W.Frag} {mg : Str → Option Value} {base : Heap} {N : List Str} {qual : Str} {scope : Scope} {f : Addr} {cd : Value} {A : Around} {outer : List Env} {s : Shared} {H : Hp} {E : XK} {p : Addr × Obj} (h : L2H.Hot1 A p) : L2H.HotC (L2H.cxH CX P w K mg base N qual scope f cd A outer s H E p) := ⟨p, h, List.mem_singleton.mpr rfl⟩
section
variable {K : PySem.W.Frag} {σ : L2.St} {H : Hp} {tr : TA} {te : TE} {T : Type} {pre : T → Prop} {args : T → List Dd} {ret : T → Dd}
theorem er_callHH {ds : List Dd} (a : T) (h : Era K tr σ H ds) (hd : ds = args a) (hp : pre a) : Er K (tCallS (spR K pre args ret) (fun _ => E0) tr) σ H (ret a) := fun H1 e Q q =>
  h H1 e _ fun vs H2 e2 z => ⟨a, hp, hd ▸ z, fun v H' e3 hv => q v H' (e2.trans e3) hv⟩
/-- isinstance of the exception in hand -/
theorem er_isX {a D dd : Addr} {cls : Value} {d : Option Addr} {fs : List (Str × V)} {c : V} {b : Bool} (cv : Value) (he : Er K te σ H (.v (.ref a))) {tc : TE} (hc : Er K tc σ H (.v c)) (e1 : cls = .ref D) (e2 : d = some dd) (hdd : H dd = some (.xd fs)) (C : ExdC K D) (hcv : ∀ u, RelV c u → u = cv) (hk : PySem.W.kitOne K (.ref D) cv = some b) :
    Er K (tCB (rIsX K a cls d) (tCons te (tCons tc tNil))) σ H (.b b) := fun H1 e Q q =>
  he H1 e _ fun v H2 x2 z => hc H2 (e.trans x2) _ fun u H3 x3 z2 => by
    obtain rfl : v = .ref a := z
    obtain rfl : u = c := z2
    exact ⟨_, cv, b, D, dd, fs, rfl, e1, e2, ((e.trans x2).trans x3) dd _ hdd, C, hcv, hk, q _ H3 (x2.trans x3) rfl⟩
/-- e.f, e the exception in hand -/
theorem er_xf {a C dd : Addr} {cls : Value} {d : Option Addr} {fs : List (Str × V)} {f : Str} {v : V} {dv : Dd} (he : Er K te σ H (.v (.ref a))) (e1 : cls = .ref C) (e2 : d = some dd) (hdd : H dd = some (.xd fs)) (hl : fs.lookup f = some v) (hv : Is K H dv v) : Er K (tXf a cls d C f te) σ H dv := fun H1 e Q q =>
  he H1 e _ fun x H2 x2 z => ⟨z, e1, dd, fs, v, e2, (e.trans x2) dd _ hdd, hl, q v H2 x2 (hv.mono (e.trans x2))⟩
end
end Mi

set_option maxHeartbeats 2000000
namespace Mi
open PySem PySem.Spec PyProof.Rows L2 Evl
open AutoSeq1 (wpAny_loadPart')
/-! ### enumerate over a zip of two texts: the zip's tuple may still be out when the next one is asked -/
abbrev ZQ (h : Heap) (z ti own : Addr) (q : Value) (f : Bool) : Prop :=
  h.get? z = some { cls := .type "zip", dict := none, data := .fields #[q, .bool f, .bool false, .ref ti, .ref own], slots := #[] }
def OutQ (q : Value) : Prop := q = .none ∨ ∃ T : Addr, q = rawInt T
section
variable {prog : Program} {w : World} {A : Around} {E : Value → Shared → Prop} {s : Shared} {z ti own i1 i2 : Addr} {p1 p2 : List Addr} {n1 n2 i : Nat} {R1 R2 : Nat → Value → Prop} {T1 T2 : Nat → Heap → Prop} {a1 a2 q : Value} {f : Bool}
theorem zq_gone {a : Addr} {Q : Option Obj → Shared → Prop} (ho : s.heap.get? a = none) (h : Q none s) : wpAny (model prog w) A (loadIfAlive a) Q E s := by
  have h2 : Q (s.heap.get? a) s := by rw [ho]; exact h
  exact fun _ _ _ => h2
theorem zq_free {Q : Bool → Shared → Prop} (hz : ZQ s.heap z ti own q f) (hq : OutQ q) (y : Q true s)
    (n : ∀ g, ZQ g z ti own q true → Heap.SameBut z s.heap g → Q false { s with heap := g }) : wpAny (model prog w) A (Builtin.SmallTypes.ownedTupleIsFree (.ref z)) Q E s := by
  unfold Builtin.SmallTypes.ownedTupleIsFree
  refine wpAny_bind (wpAny_field hz rfl (x := q) rfl ?_)
  rcases hq with rfl | ⟨T, rfl⟩
  · exact wpAny_pure y
  show wpAny _ _ (loadIfAlive ((T : Int).toNat) >>= _) _ _ _
  rw [Int.toNat_natCast]
  cases hT : s.heap.get? T with
  | none =>
    refine wpAny_bind (zq_gone hT ?_)
    exact wpAny_pure y
  | some o =>
    refine wpAny_bind (PySem.W.kdx_alive hT ?_)
    simp only [Option.isNone_some, Bool.false_eq_true, if_false]
    refine wpAny_bind (wpAny_field hz rfl (x := .bool f) rfl ?_)
    cases f
    · rw [if_pos (show (Value.bool false != Value.bool true) = true from rfl)]
      refine wpAny_bind (wpAny_setField_rec hz (by simp) fun g hg sg => ?_)
      exact wpAny_pure (n g hg sg)
    · rw [if_neg (show ¬ ((Value.bool true != Value.bool true) = true) from Bool.false_ne_true)]
      exact wpAny_pure (n _ hz (Heap.SameBut.refl _ _))
theorem zq_item {Q : Value → Shared → Prop} (S : ZipSep2 z ti own i1 i2 p1 p2) (D1 : Draws prog w A i1 p1 n1 R1 T1) (D2 : Draws prog w A i2 p2 n2 R2 T2)
    (hz : ZQ s.heap z ti own q f) (hq : OutQ q) (hI : IsTupOf2 s.heap ti (.ref i1) (.ref i2)) (hO : IsTupOf2 s.heap own a1 a2) (t1 : T1 i s.heap) (t2 : T2 i s.heap) (l1 : i < n1) (l2 : i < n2)
    (k : ∀ x y g tk q2 f2, R1 i x → R2 i y → ZQ g z ti own q2 f2 → OutQ q2 → (∃ b1 b2, IsTupOf2 g own b1 b2) → T1 (i + 1) g → T2 (i + 1) g → IsTupOf2 g s.heap.objs.size x y → g.objs.size = s.heap.objs.size + 1 →
      (∀ c o, c ≠ z → c ≠ own → c ≠ i1 → c ≠ i2 → s.heap.get? c = some o → g.get? c = some o) → Q (.ref s.heap.objs.size) { s with heap := g, toks := tk }) :
    wpAny (model prog w) A (Builtin.«zip.__next__» ⟨[.ref z], []⟩) (fun e s2 => ∃ v, e = .done (.ret v) ∧ Q v s2) E s := by
  obtain ⟨hp, gn, dr, tk0, os⟩ := s
  show wpAny _ _ (field (.ref z) 2 >>= _) _ _ _
  refine wpAny_bind (wpAny_field hz rfl (x := .bool false) rfl ?_)
  show wpAny _ _ (field (.ref z) 3 >>= _) _ _ _
  refine wpAny_bind (wpAny_field hz rfl (x := .ref ti) rfl ?_)
  refine wpAny_bind (wpAny_seqItems hI rfl ?_)
  show wpAny _ _ (Builtin.SmallTypes.ownedTupleIsFree (.ref z) >>= _) _ _ _
  refine wpAny_bind (zq_free hz hq ?_ fun g hg sg => ?_)
  · simp only [if_true]
    refine wpAny_bind (wpAny_rule ?_)
    refine wpAny_bind (wpAny_field hz rfl (x := .ref own) rfl ?_)
    refine wpAny_bind (wpAny_setField_rec hz (by simp) fun g0 z0 s0 => ?_)
    replace z0 : ZQ g0 z ti own .ellipsis f := z0
    replace s0 : Heap.SameBut z hp g0 := s0
    refine wpAny_bind ?_
    simp only [List.zipIdx_cons, List.zipIdx_nil, List.forIn_cons, List.forIn_nil]
    refine wpAny_bind (wpAny_bind (wpAny_onRaise ?_))
    show wpAny _ _ (Builtin.SmallTypes.nextOf (.ref i1) >>= _) _ _ ⟨g0, gn, dr, tk0, os⟩
    refine wpAny_bind (D1.item i _ _ _ l1 (D1.over t1 s0 S.zf1) fun x h1 k1 hx n1' m1 => wpAny_pure ?_)
    replace m1 : Heap.SameBut i1 g0 h1 := m1
    have u1 : IsTupOf2 h1 own a1 a2 := m1.extBut _ _ S.Ti1 (s0.extBut _ _ S.TOz hO)
    refine wpAny_bind (wpAny_seqItems (s := ⟨h1, gn, dr, k1, os⟩) u1 rfl ?_)
    refine wpAny_bind (updateSeq_IsTupOf2 (s := ⟨h1, gn, dr, k1, os⟩) u1 fun g1 v1 s1 => ?_)
    replace v1 : IsTupOf2 g1 own x a2 := v1
    replace s1 : Heap.SameBut own h1 g1 := s1
    refine wpAny_bind (wpAny_letGo (wpAny_pure ?_))
    refine wpAny_bind (wpAny_bind (wpAny_onRaise ?_))
    show wpAny _ _ (Builtin.SmallTypes.nextOf (.ref i2) >>= _) _ _ ⟨g1, gn, dr, k1, os⟩
    refine wpAny_bind (D2.item i _ _ _ l2 (D2.over (D2.over (D2.over t2 s0 S.zf2) m1 S.sep1_2) s1 S.Tf2) fun y h2 k2 hy n2' m2 => wpAny_pure ?_)
    replace m2 : Heap.SameBut i2 g1 h2 := m2
    have u2 : IsTupOf2 h2 own x a2 := m2.extBut _ _ S.Ti2 v1
    refine wpAny_bind (wpAny_seqItems (s := ⟨h2, gn, dr, k2, os⟩) u2 rfl ?_)
    refine wpAny_bind (updateSeq_IsTupOf2 (s := ⟨h2, gn, dr, k2, os⟩) u2 fun g2 v2 s2 => ?_)
    replace v2 : IsTupOf2 g2 own x y := v2
    replace s2 : Heap.SameBut own h2 g2 := s2
    refine wpAny_bind (wpAny_letGo (wpAny_pure (wpAny_pure ?_)))
    refine wpAny_bind (wpAny_seqItems (s := ⟨g2, gn, dr, k2, os⟩) v2 rfl ?_)
    refine wpAny_bind (wpAny_newTuple ?_)
    have sz : g2.objs.size = hp.objs.size := by rw [s2.1, m2.1, s1.1, m1.1, s0.1]
    have zz : ZQ g2 z ti own .ellipsis f := s2.extBut _ _ S.TOz.symm (m2.extBut _ _ S.zi2 (s1.extBut _ _ S.TOz.symm (m1.extBut _ _ S.zi1 z0)))
    have kp : ∀ c o, c ≠ z → c ≠ own → c ≠ i1 → c ≠ i2 → hp.get? c = some o → g2.get? c = some o := fun c o c1 c2 c3 c4 e => s2.extBut _ _ c2 (m2.extBut _ _ c4 (s1.extBut _ _ c2 (m1.extBut _ _ c3 (s0.extBut _ _ c1 e))))
    have w1 : T1 (i + 1) g2 := D1.over (D1.over (D1.over n1' s1 S.Tf1) m2 S.sep2_1) s2 S.Tf1
    have w2 : T2 (i + 1) g2 := D2.over n2' s2 S.Tf2
    have zl : z < g2.objs.size := Heap.lt_size zz
    show wpAny _ _ (Builtin.SmallTypes.ownedTupleHandOut (.ref z) (.ref g2.objs.size) >>= _) _ _ ⟨g2.push { cls := .type "tuple", data := .seq #[x, y] }, gn, dr, k2, os⟩
    refine wpAny_bind ?_
    unfold Builtin.SmallTypes.ownedTupleHandOut
    have z6 : ZQ (g2.push { cls := .type "tuple", data := .seq #[x, y] }) z ti own .ellipsis f := Heap.get?_push_of_some _ zz
    refine wpAny_bind (wpAny_setField_rec z6 (by simp) fun h7 z7 s7 => ?_)
    replace z7 : ZQ h7 z ti own (rawInt g2.objs.size) f := z7
    refine wpAny_setField_rec z7 (by simp) fun h8 z8 s8 => ?_
    replace z8 : ZQ h8 z ti own (rawInt g2.objs.size) false := z8
    replace s7 : Heap.SameBut z (g2.push { cls := .type "tuple", data := .seq #[x, y] }) h7 := s7
    replace s8 : Heap.SameBut z h7 h8 := s8
    have up : ∀ c o, c ≠ z → g2.get? c = some o → h8.get? c = some o := fun c o c1 e => s8.extBut _ _ c1 (s7.extBut _ _ c1 (Heap.get?_push_of_some _ e))
    have r8 : IsTupOf2 h8 g2.objs.size x y := s8.extBut _ _ (Nat.ne_of_gt zl) (s7.extBut _ _ (Nat.ne_of_gt zl) (Heap.get?_push_size _ rfl))
    have q8 : h8.objs.size = g2.objs.size + 1 := by rw [s8.1, s7.1, Heap.size_push]
    rw [sz] at z8 r8 q8
    refine wpAny_pure ⟨_, rfl, ?_⟩
    show Q (.ref g2.objs.size) ⟨h8, gn, dr, k2, os⟩
    rw [sz]
    exact k x y h8 k2 _ _ hx hy z8 (.inr ⟨_, rfl⟩) ⟨_, _, up _ _ S.TOz v2⟩ (D1.frame _ _ _ w1 fun b hb o e => up b o (fun t => S.zf1 (t ▸ hb)) e) (D2.frame _ _ _ w2 fun b hb o e => up b o (fun t => S.zf2 (t ▸ hb)) e) r8 q8 fun c o c1 c2 c3 c4 e => up c o c1 (kp c o c1 c2 c3 c4 e)
  · replace sg : Heap.SameBut z hp g := sg
    simp only [Bool.false_eq_true, if_false]
    refine wpAny_bind ?_
    rw [← Array.forIn_toList]
    simp only [List.forIn_cons, List.forIn_nil]
    refine wpAny_bind (wpAny_bind (wpAny_holding ?_))
    show wpAny _ _ (Builtin.SmallTypes.nextOf (.ref i1) >>= _) _ _ ⟨g, gn, dr, tk0, os⟩
    refine wpAny_bind (D1.item i _ _ _ l1 (D1.over t1 sg S.zf1) fun x h1 k1 hx n1' m1 => wpAny_pure ?_)
    replace m1 : Heap.SameBut i1 g h1 := m1
    refine wpAny_pure ?_
    refine wpAny_bind (wpAny_bind (wpAny_holding ?_))
    show wpAny _ _ (Builtin.SmallTypes.nextOf (.ref i2) >>= _) _ _ ⟨h1, gn, dr, k1, os⟩
    refine wpAny_bind (D2.item i _ _ _ l2 (D2.over (D2.over t2 sg S.zf2) m1 S.sep1_2) fun y h2 k2 hy n2' m2 => wpAny_pure ?_)
    replace m2 : Heap.SameBut i2 h1 h2 := m2
    refine wpAny_pure (wpAny_pure ?_)
    show wpAny _ _ (newTuple [x, y] >>= _) _ _ _
    refine wpAny_bind (wpAny_newTuple ?_)
    have sz : h2.objs.size = hp.objs.size := by rw [m2.1, m1.1, sg.1]
    have zz : ZQ h2 z ti own q true := m2.extBut _ _ S.zi2 (m1.extBut _ _ S.zi1 hg)
    have kp : ∀ c o, c ≠ z → c ≠ i1 → c ≠ i2 → hp.get? c = some o → h2.get? c = some o := fun c o c1 c3 c4 e => m2.extBut _ _ c4 (m1.extBut _ _ c3 (sg.extBut _ _ c1 e))
    have w1 : T1 (i + 1) h2 := D1.over n1' m2 S.sep2_1
    refine wpAny_pure ⟨_, rfl, ?_⟩
    show Q (.ref h2.objs.size) _
    have hp2 : IsTupOf2 (h2.push { cls := .type "tuple", data := .seq #[x, y] }) h2.objs.size x y := Heap.get?_push_size _ rfl
    have sz2 : (h2.push { cls := .type "tuple", data := .seq #[x, y] }).objs.size = h2.objs.size + 1 := Heap.size_push ..
    rw [sz] at hp2 sz2 ⊢
    exact k x y _ k2 q true hx hy (Heap.get?_push_of_some _ zz) hq ⟨_, _, Heap.get?_push_of_some _ (kp _ _ S.TOz S.Ti1 S.Ti2 hO)⟩ (D1.frame _ _ _ w1 fun b hb o e => Heap.get?_push_of_some _ e) (D2.frame _ _ _ n2' fun b hb o e => Heap.get?_push_of_some _ e) hp2 sz2 fun c o c1 c2 c3 c4 e => Heap.get?_push_of_some _ (kp c o c1 c3 c4 e)
theorem zq_end {Q : Fin → Shared → Prop} (S : ZipSep2 z ti own i1 i2 p1 p2) (D1 : Draws prog w A i1 p1 n1 R1 T1) (D2 : Draws prog w A i2 p2 n2 R2 T2)
    (hz : ZQ s.heap z ti own q f) (hq : OutQ q) (hI : IsTupOf2 s.heap ti (.ref i1) (.ref i2)) (hO : IsTupOf2 s.heap own a1 a2) (t1 : T1 i s.heap) (t2 : T2 i s.heap) (l1 : i ≤ n1) (l2 : i ≤ n2) (hl : i = n1 ∨ i = n2)
    (k : ∀ g tk e, (∀ c o, c ≠ z → c ≠ own → c ≠ i1 → c ≠ i2 → s.heap.get? c = some o → g.get? c = some o) → (∃ o, g.get? e = some o ∧ o.cls = .type "StopIteration") → E (.ref e) { s with heap := g, toks := tk }) :
    wpAny (model prog w) A (Builtin.«zip.__next__» ⟨[.ref z], []⟩) Q E s := by
  obtain ⟨hp, gn, dr, tk0, os⟩ := s
  show wpAny _ _ (field (.ref z) 2 >>= _) _ _ _
  refine wpAny_bind (wpAny_field hz rfl (x := .bool false) rfl ?_)
  show wpAny _ _ (field (.ref z) 3 >>= _) _ _ _
  refine wpAny_bind (wpAny_field hz rfl (x := .ref ti) rfl ?_)
  refine wpAny_bind (wpAny_seqItems hI rfl ?_)
  show wpAny _ _ (Builtin.SmallTypes.ownedTupleIsFree (.ref z) >>= _) _ _ _
  refine wpAny_bind (zq_free hz hq ?_ fun g hg sg => ?_)
  · simp only [if_true]
    refine wpAny_bind (wpAny_rule ?_)
    refine wpAny_bind (wpAny_field hz rfl (x := .ref own) rfl ?_)
    refine wpAny_bind (wpAny_setField_rec hz (by simp) fun g0 z0 s0 => ?_)
    replace z0 : ZQ g0 z ti own .ellipsis f := z0
    replace s0 : Heap.SameBut z hp g0 := s0
    refine wpAny_bind ?_
    simp only [List.zipIdx_cons, List.zipIdx_nil, List.forIn_cons, List.forIn_nil]
    refine wpAny_bind (wpAny_bind (wpAny_onRaise ?_))
    show wpAny _ _ (Builtin.SmallTypes.nextOf (.ref i1) >>= _) _ _ ⟨g0, gn, dr, tk0, os⟩
    by_cases lt : i < n1
    · refine wpAny_bind (D1.item i _ _ _ lt (D1.over t1 s0 S.zf1) fun x h1 k1 hx n1' m1 => wpAny_pure ?_)
      replace m1 : Heap.SameBut i1 g0 h1 := m1
      have u1 : IsTupOf2 h1 own a1 a2 := m1.extBut _ _ S.Ti1 (s0.extBut _ _ S.TOz hO)
      refine wpAny_bind (wpAny_seqItems (s := ⟨h1, gn, dr, k1, os⟩) u1 rfl ?_)
      refine wpAny_bind (updateSeq_IsTupOf2 (s := ⟨h1, gn, dr, k1, os⟩) u1 fun g1 v1 s1 => ?_)
      replace v1 : IsTupOf2 g1 own x a2 := v1
      replace s1 : Heap.SameBut own h1 g1 := s1
      refine wpAny_bind (wpAny_letGo (wpAny_pure ?_))
      have e2 : i = n2 := by omega
      refine wpAny_bind (wpAny_bind (wpAny_onRaise ?_))
      show wpAny _ _ (Builtin.SmallTypes.nextOf (.ref i2) >>= _) _ _ ⟨g1, gn, dr, k1, os⟩
      refine wpAny_bind (D2.done ⟨g1, gn, dr, k1, os⟩ _ _ (by rw [← e2]; exact D2.over (D2.over (D2.over t2 s0 S.zf2) m1 S.sep1_2) s1 S.Tf2) fun r e hr he => ?_)
      replace hr : Heap.ExtBut i2 g1 r := hr
      obtain ⟨oe, o1, o2⟩ := he
      replace o1 : r.get? e = some oe := o1
      have zr : ZQ r z ti own .ellipsis f := hr _ _ S.zi2 (s1.extBut _ _ S.TOz.symm (m1.extBut _ _ S.zi1 z0))
      have ez : e ≠ z := fun t => by subst t; rw [zr] at o1; cases o1; simp at o2
      refine wpAny_setField_rec (s := ⟨r, gn, dr, k1, os⟩) zr (by simp) fun r2 _ sr => ?_
      replace sr : Heap.SameBut z r r2 := sr
      exact k r2 k1 e (fun c o c1 c2 c3 c4 t => sr.extBut _ _ c1 (hr _ _ c4 (s1.extBut _ _ c2 (m1.extBut _ _ c3 (s0.extBut _ _ c1 t))))) ⟨oe, sr.extBut _ _ ez o1, o2⟩
    · have e1 : i = n1 := by omega
      refine wpAny_bind (D1.done ⟨g0, gn, dr, tk0, os⟩ _ _ (by rw [← e1]; exact D1.over t1 s0 S.zf1) fun r e hr he => ?_)
      replace hr : Heap.ExtBut i1 g0 r := hr
      obtain ⟨oe, o1, o2⟩ := he
      replace o1 : r.get? e = some oe := o1
      have zr : ZQ r z ti own .ellipsis f := hr _ _ S.zi1 z0
      have ez : e ≠ z := fun t => by subst t; rw [zr] at o1; cases o1; simp at o2
      refine wpAny_setField_rec (s := ⟨r, gn, dr, tk0, os⟩) zr (by simp) fun r2 _ sr => ?_
      replace sr : Heap.SameBut z r r2 := sr
      exact k r2 tk0 e (fun c o c1 c2 c3 c4 t => sr.extBut _ _ c1 (hr _ _ c3 (s0.extBut _ _ c1 t))) ⟨oe, sr.extBut _ _ ez o1, o2⟩
  · replace sg : Heap.SameBut z hp g := sg
    simp only [Bool.false_eq_true, if_false]
    refine wpAny_bind ?_
    rw [← Array.forIn_toList]
    simp only [List.forIn_cons, List.forIn_nil]
    refine wpAny_bind (wpAny_bind (wpAny_holding ?_))
    show wpAny _ _ (Builtin.SmallTypes.nextOf (.ref i1) >>= _) _ _ ⟨g, gn, dr, tk0, os⟩
    by_cases lt : i < n1
    · refine wpAny_bind (D1.item i _ _ _ lt (D1.over t1 sg S.zf1) fun x h1 k1 hx n1' m1 => wpAny_pure ?_)
      replace m1 : Heap.SameBut i1 g h1 := m1
      have e2 : i = n2 := by omega
      refine wpAny_pure ?_
      refine wpAny_bind (wpAny_bind (wpAny_holding ?_))
      show wpAny _ _ (Builtin.SmallTypes.nextOf (.ref i2) >>= _) _ _ ⟨h1, gn, dr, k1, os⟩
      refine wpAny_bind (D2.done ⟨h1, gn, dr, k1, os⟩ _ _ (by rw [← e2]; exact D2.over (D2.over t2 sg S.zf2) m1 S.sep1_2) fun r e hr he => ?_)
      replace hr : Heap.ExtBut i2 h1 r := hr
      exact k r k1 e (fun c o c1 c2 c3 c4 t => hr _ _ c4 (m1.extBut _ _ c3 (sg.extBut _ _ c1 t))) he
    · have e1 : i = n1 := by omega
      refine wpAny_bind (D1.done ⟨g, gn, dr, tk0, os⟩ _ _ (by rw [← e1]; exact D1.over t1 sg S.zf1) fun r e hr he => ?_)
      replace hr : Heap.ExtBut i1 g r := hr
      exact k r tk0 e (fun c o c1 c2 c3 c4 t => hr _ _ c3 (sg.extBut _ _ c1 t)) he
theorem zq_next {Q : Value → Shared → Prop} (S : ZipSep2 z ti own i1 i2 p1 p2) (D1 : Draws prog w A.in1 i1 p1 n1 R1 T1) (D2 : Draws prog w A.in1 i2 p2 n2 R2 T2)
    (hz : ZQ s.heap z ti own q f) (hq : OutQ q) (hI : IsTupOf2 s.heap ti (.ref i1) (.ref i2)) (hO : IsTupOf2 s.heap own a1 a2) (t1 : T1 i s.heap) (t2 : T2 i s.heap) (l1 : i < n1) (l2 : i < n2)
    (k : ∀ x y g tk q2 f2, R1 i x → R2 i y → ZQ g z ti own q2 f2 → OutQ q2 → (∃ b1 b2, IsTupOf2 g own b1 b2) → T1 (i + 1) g → T2 (i + 1) g → IsTupOf2 g s.heap.objs.size x y → g.objs.size = s.heap.objs.size + 1 →
      (∀ c o, c ≠ z → c ≠ own → c ≠ i1 → c ≠ i2 → s.heap.get? c = some o → g.get? c = some o) → Q (.ref s.heap.objs.size) { s with heap := g, toks := tk }) :
    wpAny (model prog w) A (Builtin.SmallTypes.nextOf (.ref z)) Q E s := by
  have ty : s.TypeIs (.ref z) "zip" := ⟨_, hz, rfl⟩
  unfold Builtin.SmallTypes.nextOf
  refine wpAny_bind (wpAny_callSpecial?_slot (name := Str.ofString "__next__") ty PySem.F.slot_zip_next (wpAny_call_entry PySem.F.slot_zip_next ty PySem.F.entry_zip_next ?_ (PySem.F.args_zip_next_1 _)))
  exact zq_item S D1 D2 hz hq hI hO t1 t2 l1 l2 fun x y g tk q2 f2 u1 u2 u3 u4 u5 u6 u7 u8 u9 u10 => wpAny_pure (k x y g tk q2 f2 u1 u2 u3 u4 u5 u6 u7 u8 u9 u10)
theorem zq_stop {Q : Value → Shared → Prop} (S : ZipSep2 z ti own i1 i2 p1 p2) (D1 : Draws prog w A.in1 i1 p1 n1 R1 T1) (D2 : Draws prog w A.in1 i2 p2 n2 R2 T2)
    (hz : ZQ s.heap z ti own q f) (hq : OutQ q) (hI : IsTupOf2 s.heap ti (.ref i1) (.ref i2)) (hO : IsTupOf2 s.heap own a1 a2) (t1 : T1 i s.heap) (t2 : T2 i s.heap) (l1 : i ≤ n1) (l2 : i ≤ n2) (hl : i = n1 ∨ i = n2)
    (k : ∀ g tk e, (∀ c o, c ≠ z → c ≠ own → c ≠ i1 → c ≠ i2 → s.heap.get? c = some o → g.get? c = some o) → (∃ o, g.get? e = some o ∧ o.cls = .type "StopIteration") → E (.ref e) { s with heap := g, toks := tk }) :
    wpAny (model prog w) A (Builtin.SmallTypes.nextOf (.ref z)) Q E s := by
  have ty : s.TypeIs (.ref z) "zip" := ⟨_, hz, rfl⟩
  unfold Builtin.SmallTypes.nextOf
  refine wpAny_bind (wpAny_callSpecial?_slot (name := Str.ofString "__next__") ty PySem.F.slot_zip_next (wpAny_call_entry PySem.F.slot_zip_next ty PySem.F.entry_zip_next ?_ (PySem.F.args_zip_next_1 _)))
  exact zq_end S D1 D2 hz hq hI hO t1 t2 l1 l2 hl k
/-- enumerate's next, whatever it walks over -/
theorem en_item {e it : Addr} {old : Value} {Q : Value → Shared → Prop} (he : IsEnum s.heap e it ((i : Nat) : Int) old)
    (hn : wpAny (model prog w) A (Builtin.SmallTypes.nextOf (.ref it)) (fun x t => IsEnum t.heap e it ((i : Nat) : Int) old ∧ ∀ g, IsEnumOut g e it ((i : Int) + 1) x t.heap.objs.size → g.get? t.heap.objs.size = some { cls := .type "tuple", data := .seq #[.int i t.toks, x] } →
      g.objs.size = t.heap.objs.size + 1 → (∀ b o, b ≠ e → t.heap.get? b = some o → g.get? b = some o) → Q (.ref t.heap.objs.size) { t with heap := g, toks := t.toks + 1 }) E s) :
    wpAny (model prog w) A (Builtin.«enumerate.__next__» ⟨[.ref e], []⟩) (fun r t => ∃ v, r = .done (.ret v) ∧ Q v t) E s := by
  show wpAny _ _ (field (.ref e) 2 >>= _) _ _ _
  refine wpAny_bind (wpAny_field he rfl (x := .ref it) rfl ?_)
  refine wpAny_bind (wpAny_mono hn (fun x t ht => ?_) fun _ _ h => h)
  obtain ⟨e1, k⟩ := ht
  obtain ⟨h1, gn, dr, tk, os⟩ := t
  replace e1 : IsEnum h1 e it ((i : Nat) : Int) old := e1
  show wpAny _ _ (field (.ref e) 3 >>= _) _ _ ⟨h1, gn, dr, tk, os⟩
  refine wpAny_bind (wpAny_field e1 rfl (x := rawInt i) rfl ?_)
  show wpAny _ _ (field (.ref e) 4 >>= _) _ _ ⟨h1, gn, dr, tk, os⟩
  refine wpAny_bind (wpAny_field e1 rfl (x := .none) rfl ?_)
  show wpAny _ _ (mkInt i >>= _) _ _ ⟨h1, gn, dr, tk, os⟩
  refine wpAny_bind (wpAny_mkInt ?_)
  show wpAny _ _ (setField (.ref e) 3 (rawInt ((i : Int) + 1)) >>= _) _ _ ⟨h1, gn, dr, tk + 1, os⟩
  refine wpAny_bind (wpAny_setField_rec e1 (by simp) fun h2 e2 s2 => ?_)
  replace s2 : Heap.SameBut e h1 h2 := s2
  replace e2 : IsEnum h2 e it ((i : Int) + 1) old := e2
  show wpAny _ _ (setField (.ref e) 4 .none >>= _) _ _ ⟨h2, gn, dr, tk + 1, os⟩
  refine wpAny_bind (wpAny_setField_rec e2 (by simp) fun h3 e3 s3 => ?_)
  replace s3 : Heap.SameBut e h2 h3 := s3
  replace e3 : IsEnum h3 e it ((i : Int) + 1) old := e3
  show wpAny _ _ (newTuple [.int i tk, x] >>= _) _ _ ⟨h3, gn, dr, tk + 1, os⟩
  refine wpAny_bind (wpAny_newTuple ?_)
  have e4 : IsEnum (h3.push { cls := .type "tuple", data := .seq #[.int i tk, x] }) e it ((i : Int) + 1) old := Heap.get?_push_of_some _ e3
  have z3 : h3.objs.size = h1.objs.size := by rw [s3.1, s2.1]
  have t4 : (h3.push { cls := .type "tuple", data := .seq #[.int i tk, x] }).get? h1.objs.size = some { cls := .type "tuple", data := .seq #[.int i tk, x] } := by rw [← z3]; exact Heap.get?_push_size _ rfl
  have z4 : (h3.push { cls := .type "tuple", data := .seq #[.int i tk, x] }).objs.size = h1.objs.size + 1 := by rw [Heap.size_push, z3]
  have k4 : ∀ b o, b ≠ e → h1.get? b = some o → (h3.push { cls := .type "tuple", data := .seq #[.int i tk, x] }).get? b = some o := fun b o hb y => Heap.get?_push_of_some _ (s3.extBut b o hb (s2.extBut b o hb y))
  generalize h3.push { cls := .type "tuple", data := .seq #[.int i tk, x] } = h4 at e4 t4 z4 k4
  have el : e < h1.objs.size := Heap.lt_size e1
  show wpAny _ _ (Builtin.SmallTypes.ownedTupleIsFree (.ref e) >>= _) _ _ ⟨h4, gn, dr, tk + 1, os⟩
  rw [z3]
  clear e3 s3 e2 s2 z3 h3 h2
  refine wpAny_bind ?_
  unfold Builtin.SmallTypes.ownedTupleIsFree
  refine wpAny_bind (wpAny_field e4 rfl (x := .none) rfl (wpAny_pure ?_))
  simp only [if_true]
  refine wpAny_bind (wpAny_rule ?_)
  refine wpAny_bind (wpAny_field e4 rfl (x := old) rfl ?_)
  refine wpAny_bind (wpAny_setField_rec e4 (by simp) fun h5 e5 s5 => ?_)
  replace s5 : Heap.SameBut e h4 h5 := s5
  replace e5 : IsEnum h5 e it ((i : Int) + 1) x := e5
  show wpAny _ _ (Builtin.SmallTypes.ownedTupleHandOut (.ref e) (.ref h1.objs.size) >>= _) _ _ ⟨h5, gn, dr, tk + 1, os⟩
  refine wpAny_bind ?_
  unfold Builtin.SmallTypes.ownedTupleHandOut
  refine wpAny_bind (wpAny_setField_rec e5 (by simp) fun h6 e6 s6 => ?_)
  replace s6 : Heap.SameBut e h5 h6 := s6
  replace e6 : IsEnumOut h6 e it ((i : Int) + 1) x h1.objs.size := e6
  refine wpAny_setField_rec e6 (by simp) fun h7 e7 s7 => ?_
  replace s7 : Heap.SameBut e h6 h7 := s7
  replace e7 : IsEnumOut h7 e it ((i : Int) + 1) x h1.objs.size := e7
  have up : ∀ b o, b ≠ e → h4.get? b = some o → h7.get? b = some o := fun b o hb y => s7.extBut b o hb (s6.extBut b o hb (s5.extBut b o hb y))
  exact wpAny_bind (wpAny_letGo (wpAny_pure ⟨_, rfl, k h7 e7 (up _ _ (Nat.ne_of_gt el) t4) (by rw [s7.1, s6.1, s5.1, z4]) fun b o hb y => up b o hb (k4 b o hb y)⟩))
theorem en_next {e it : Addr} {old : Value} {Q : Option Value → Shared → Prop} (he : IsEnum s.heap e it ((i : Nat) : Int) old)
    (hn : wpAny (model prog w) A.in1 (Builtin.SmallTypes.nextOf (.ref it)) (fun x t => IsEnum t.heap e it ((i : Nat) : Int) old ∧ ∀ g, IsEnumOut g e it ((i : Int) + 1) x t.heap.objs.size → g.get? t.heap.objs.size = some { cls := .type "tuple", data := .seq #[.int i t.toks, x] } →
      g.objs.size = t.heap.objs.size + 1 → (∀ b o, b ≠ e → t.heap.get? b = some o → g.get? b = some o) → Q (some (.ref t.heap.objs.size)) { t with heap := g, toks := t.toks + 1 })
      (fun v t => wpAny (model prog w) A (do if (← isInstance v (.type "StopIteration")) then pure none else throw v) Q E t) s) :
    wpAny (model prog w) A (pyNext (.ref e)) Q E s := by
  have ty : s.TypeIs (.ref e) "enumerate" := ⟨_, he, rfl⟩
  unfold pyNext
  refine wpAny_bind (wpAny_attempt (wpAny_callSpecial?_slot (name := Str.ofString "__next__") ty PySem.F.slot_enumerate_next (wpAny_call_entry PySem.F.slot_enumerate_next ty PySem.F.entry_enumerate_next ?_ (PySem.F.args_enumerate_next_1 _))))
  exact en_item he (wpAny_mono hn (fun x t ht => ⟨ht.1, fun g a b c d => wpAny_pure (ht.2 g a b c d)⟩) fun _ _ h => h)
theorem en_stop {e it : Addr} {c : Int} {old : Value} {Q : Option Value → Shared → Prop} (he : IsEnum s.heap e it c old)
    (hn : wpAny (model prog w) A.in1 (Builtin.SmallTypes.nextOf (.ref it)) (fun _ _ => False) (fun v t => ∃ x, v = .ref x ∧ (∃ o, t.heap.get? x = some o ∧ o.cls = .type "StopIteration") ∧ Q none t) s) :
    wpAny (model prog w) A (pyNext (.ref e)) Q E s := by
  have ty : s.TypeIs (.ref e) "enumerate" := ⟨_, he, rfl⟩
  unfold pyNext
  refine wpAny_bind (wpAny_attempt (wpAny_callSpecial?_slot (name := Str.ofString "__next__") ty PySem.F.slot_enumerate_next (wpAny_call_entry PySem.F.slot_enumerate_next ty PySem.F.entry_enumerate_next ?_ (PySem.F.args_enumerate_next_1 _))))
  show wpAny _ _ (field (.ref e) 2 >>= _) _ _ _
  refine wpAny_bind (wpAny_field he rfl (x := .ref it) rfl ?_)
  refine wpAny_bind (wpAny_mono hn (fun _ _ h => h.elim) fun v t ht => ?_)
  obtain ⟨x, rfl, ⟨o, ho, hc⟩, hq⟩ := ht
  refine wpAny_bind (wpAny_isInstance (T := "StopIteration") (b := true) ⟨o, ho, hc⟩ isSubtype_stop ?_)
  exact wpAny_pure hq
end
theorem meets_enumZ (z ti own : Addr) :
    Meets (Builtin.«enumerate.__new__» ⟨[.type "enumerate", .ref z], []⟩) (fun _ R s => IsZip s.heap z ti own .none ∧
      R (.ok (.ret (.ref s.heap.objs.size))) { s with heap := s.heap.push { cls := .type "enumerate", data := .fields #[.none, .bool false, .ref z, rawInt 0, .none, .none] } }) :=
  .of_wp fun prog w A R s h => by
    obtain ⟨hp, g, d, tk, os⟩ := s
    obtain ⟨hl, h⟩ := h
    have hsub := sub_enumerate
    have hL : IsZip (Shared.heap ⟨hp, g, d, tk, os⟩) z ti own .none := hl
    wp_walk using wpAny_loadPart' hl
    refine wpAny_stack_any fun st => wpAny_pure ?_
    split
    · rename_i c _ _ _ _ _
      cases (c == Value.type "enumerate")
      · wp_walk using wpAny_loadPart' hl, wpAny_pyIter_zip hL
        exact ⟨_, rfl, h⟩
      · wp_walk using wpAny_loadPart' hl, wpAny_pyIter_zip hL
        exact ⟨_, rfl, h⟩
    · wp_walk using wpAny_loadPart' hl, wpAny_pyIter_zip hL
      exact ⟨_, rfl, h⟩
theorem call_enumZ {prog : Program} {w : World} {A : Around} {E : Value → Shared → Prop} {s : Shared} {z ti own : Addr} {Q : Value → Shared → Prop} (hz : IsZip s.heap z ti own .none)
    (h : ∀ h', IsEnum h' s.heap.objs.size z 0 .none → h'.objs.size = s.heap.objs.size + 1 → (∀ b o, s.heap.get? b = some o → h'.get? b = some o) → Q (.ref s.heap.objs.size) { s with heap := h' }) :
    wpAny (model prog w) A (call (.type "enumerate") [.ref z]) Q E s := by
  refine callType_new PySem.F.called_enumerate (by decide) (PySem.F.typeCall_enumerate_1 _) (PySem.F.newCall_enumerate_1 _) (fun obj => PySem.F.args_object_init_2 obj _) PySem.F.entry_enumerate_new
    (meets_enumZ z ti own) ⟨hz, ?_⟩
  show _ ∧ _
  have he : IsEnum (s.heap.push { cls := .type "enumerate", data := .fields #[.none, .bool false, .ref z, rawInt 0, .none, .none] }) s.heap.objs.size z 0 .none := Heap.get?_push_size _ rfl
  exact ⟨⟨_, he, rfl⟩, h _ he (Heap.size_push ..) fun b o x => Heap.get?_push_of_some _ x⟩
/-- place and pair, each in a new tuple -/
def ItZ (ps : List (V × V)) : It :=
  ⟨fun i _ => i < ps.length, fun i H v H' => ∃ (T U : Addr) (x y : V), v = .ref T ∧ H U = none ∧ T ≠ U ∧ H T = none ∧ H' = upd (upd H U (.tup [x, y])) T (.tup [.int (i : Nat), .ref U]) ∧ ps[i]? = some (x, y), fun i _ => i = ps.length⟩
theorem turn_enumZ {P : Program} {w : World} {K : PySem.W.Frag} {elts : List Expr} {kk : Nat} {tpos : Pos} (x y : Str) (t u : Tok) (e z ti own i1 i2 : Addr) (S : ZipSep2 z ti own i1 i2 [i1] [i2])
    (ez : e ≠ z) (eI : e ≠ ti) (eo : e ≠ own) (e1 : e ≠ i1) (e2 : e ≠ i2) :
    Turn P w K (.Tuple elts kk tpos) (ItZ (zipS x y)) [e, z, ti, own, i1, i2] e (fun i h => (∃ old, IsEnum h e z ((i : Nat) : Int) old) ∧ (∃ q f, ZQ h z ti own q f ∧ OutQ q) ∧ IsTupOf2 h ti (.ref i1) (.ref i2) ∧ (∃ a1 a2, IsTupOf2 h own a1 a2) ∧ h.IsStrIter i1 (strIterType x) x t i ∧ h.IsStrIter i2 (strIterType y) y u i) where
  mem := by simp
  obj := by
    rintro i h ⟨⟨_, z0⟩, ⟨_, _, z1, _⟩, z2, ⟨_, _, z3⟩, z4, z5⟩ b hb
    have e' : b = e ∨ b = z ∨ b = ti ∨ b = own ∨ b = i1 ∨ b = i2 := by simpa using hb
    rcases e' with q | q | q | q | q | q
    · rw [q]; exact ⟨_, z0, fun v q => nomatch q⟩
    · rw [q]; exact ⟨_, z1, fun v q => nomatch q⟩
    · rw [q]; exact ⟨_, z2, fun v q => nomatch q⟩
    · rw [q]; exact ⟨_, z3, fun v q => nomatch q⟩
    · rw [q]; exact text_obj z4
    · rw [q]; exact text_obj z5
  keep := by
    rintro i h h' ⟨⟨old, z0⟩, ⟨q, f, z1, hq⟩, z2, ⟨a1, a2, z3⟩, ⟨o4, z4, r4⟩, o5, z5, r5⟩ k
    exact ⟨⟨old, k e (by simp) _ z0⟩, ⟨q, f, k z (by simp) _ z1, hq⟩, k ti (by simp) _ z2, ⟨a1, a2, k own (by simp) _ z3⟩, ⟨o4, k i1 (by simp) _ z4, r4⟩, o5, k i2 (by simp) _ z5, r5⟩
  item := by
    intro X hP hw hK hcm i pins s σ H E I hf st hg
    subst hP hw hK
    obtain ⟨⟨old, he⟩, ⟨q, f, hz, hq⟩, hI, ⟨a1, a2, hO⟩, r1, r2⟩ := st
    have hlt : i < (zipS x y).length := hg
    rw [zipS_len] at hlt
    have l1 : i < x.cps.size := by omega
    have l2 : i < y.cps.size := by omega
    have D1 := Draws.text (prog := X.prog) (w := X.w) (A := X.A.in1.in1) (I.ok.hd hcm) i1 x t
    have D2 := Draws.text (prog := X.prog) (w := X.w) (A := X.A.in1.in1) (I.ok.hd hcm) i2 y u
    refine en_next he (zq_next S D1 D2 hz hq hI hO r1 r2 l1 l2 fun vx vy g tk q2 f2 hx hy zg oq og g1 g2 hU sz kp => ⟨kp e _ ez eo e1 e2 he, fun g3 eg hT sz3 kp3 => ?_⟩)
    obtain ⟨c, k1, hc1, rfl⟩ := hx
    obtain ⟨d, k2, hd1, rfl⟩ := hy
    obtain ⟨b1, b2, og⟩ := og
    refine ⟨_, rfl, wpAny_letOwnedTupleGo_enum (s := { s with heap := g3, toks := tk + 1 }) eg fun g4 e4 s4 => ?_⟩
    replace s4 : Heap.SameBut e g3 g4 := s4
    replace sz3 : g3.objs.size = g.objs.size + 1 := sz3
    have el : e < s.heap.objs.size := Heap.lt_size he
    have hsz : g.objs.size = s.heap.objs.size + 1 := sz
    have hTn : e ≠ g.objs.size := by rw [hsz]; exact Nat.ne_of_lt (Nat.lt_succ_of_lt el)
    have hT4 : g4.get? g.objs.size = some { cls := .type "tuple", data := .seq #[.int i tk, .ref s.heap.objs.size] } := (s4.2 _ hTn.symm).trans hT
    have newU : ObjOk X.prog X.w (upd H s.heap.objs.size (.tup [sgn c, sgn d])) g s.heap.objs.size (.tup [sgn c, sgn d]) :=
      ⟨by show 2 ≤ sizeLine; decide, [.str ⟨#[c]⟩ k1, .str ⟨#[d]⟩ k2], .cons ⟨k1, rfl⟩ (.cons ⟨k2, rfl⟩ .nil), ⟨_, hU, rfl, _, rfl⟩⟩
    have I1 : Inv X pins σ (upd H s.heap.objs.size (.tup [sgn c, sgn d])) { s with heap := g, toks := tk } :=
      I.turnedNew (ch := [e, z, ti, own, i1, i2]) (fun b ob hb q => kp b ob (fun z => hb (by simp [z])) (fun z => hb (by simp [z])) (fun z => hb (by simp [z])) (fun z => hb (by simp [z])) q) hf (Nat.le_refl _) newU
    have old6 : ∀ b ∈ [e, z, ti, own, i1, i2], b < s.heap.objs.size := by
      intro b hb
      have e' : b = e ∨ b = z ∨ b = ti ∨ b = own ∨ b = i1 ∨ b = i2 := by simpa using hb
      rcases e' with q | q | q | q | q | q
      · rw [q]; exact el
      · rw [q]; exact Heap.lt_size hz
      · rw [q]; exact Heap.lt_size hI
      · rw [q]; exact Heap.lt_size hO
      · rw [q]; obtain ⟨_, q, _⟩ := r1; exact Heap.lt_size q
      · rw [q]; obtain ⟨_, q, _⟩ := r2; exact Heap.lt_size q
    have hf1 : ∀ b ∈ [e, z, ti, own, i1, i2], FpOk X pins (upd H s.heap.objs.size (.tup [sgn c, sgn d])) b := fun b hb => ⟨by rw [upd_ne (Nat.ne_of_lt (old6 b hb))]; exact (hf b hb).1, (hf b hb).2⟩
    have newT : ObjOk X.prog X.w (upd (upd H s.heap.objs.size (.tup [sgn c, sgn d])) g.objs.size (.tup [.int (i : Nat), .ref s.heap.objs.size])) g4 g.objs.size (.tup [.int (i : Nat), .ref s.heap.objs.size]) :=
      ⟨by show 2 ≤ sizeLine; decide, [.int i tk, .ref s.heap.objs.size], .cons ⟨_, rfl⟩ (.cons rfl .nil), ⟨_, hT4, rfl, _, rfl⟩⟩
    have I2 : Inv X pins σ (upd (upd H s.heap.objs.size (.tup [sgn c, sgn d])) g.objs.size (.tup [.int (i : Nat), .ref s.heap.objs.size])) { s with heap := g4, toks := tk + 1 } :=
      I1.turnedNew (ch := [e, z, ti, own, i1, i2]) (fun b ob hb q => (s4.2 b (fun z => hb (by simp [z]))).trans (kp3 b ob (fun z => hb (by simp [z])) q)) hf1 (Nat.le_refl _) newT
    have stay : ∀ b o, b ≠ e → g.get? b = some o → g4.get? b = some o := fun b o hb q => (s4.2 b hb).trans (kp3 b o hb q)
    refine ⟨.ref g.objs.size, _, I2, rfl, ⟨g.objs.size, s.heap.objs.size, sgn c, sgn d, rfl, I.hok.fresh (Nat.le_refl _), (by rw [hsz]; exact Nat.succ_ne_self _), I.hok.fresh (by rw [hsz]; exact Nat.le_succ _), rfl, zipS_get hc1 hd1⟩, ⟨⟨.ref s.heap.objs.size, ?_⟩, ⟨q2, f2, stay z _ ez.symm zg, oq⟩, stay ti _ eI.symm (kp ti _ S.TIz S.TITO S.TIi1 S.TIi2 hI), ⟨b1, b2, stay own _ eo.symm og⟩, ?_, ?_⟩, fun b hb => ?_⟩
    · have e1 : ((i + 1 : Nat) : Int) = (i : Int) + 1 := by omega
      rw [e1]
      exact e4
    · obtain ⟨o, ho, r⟩ := g1
      exact ⟨o, stay i1 _ e1.symm ho, r⟩
    · obtain ⟨o, ho, r⟩ := g2
      exact ⟨o, stay i2 _ e2.symm ho, r⟩
    · have := old6 b hb
      rw [upd_ne (Nat.ne_of_lt (by rw [hsz]; exact Nat.lt_succ_of_lt this)), upd_ne (Nat.ne_of_lt this)]
      exact (hf b hb).1
  done := by
    intro X hP hw hK hcm i pins s σ H E I hf st hg
    subst hP hw hK
    obtain ⟨⟨old, he⟩, ⟨q, f, hz, hq⟩, hI, ⟨a1, a2, hO⟩, r1, r2⟩ := st
    have hl : i = (zipS x y).length := hg
    rw [zipS_len] at hl
    have D1 := Draws.text (prog := X.prog) (w := X.w) (A := X.A.in1.in1) (I.ok.hd hcm) i1 x t
    have D2 := Draws.text (prog := X.prog) (w := X.w) (A := X.A.in1.in1) (I.ok.hd hcm) i2 y u
    refine en_stop he (zq_stop S D1 D2 hz hq hI hO r1 r2 (by omega) (by omega) (by omega) fun g tk x kp hx => ⟨x, rfl, hx, rfl, ?_⟩)
    exact I.turnedL (t' := tk) (ch := [e, z, ti, own, i1, i2]) (fun b ob hb q => kp b ob (fun z => hb (by simp [z])) (fun z => hb (by simp [z])) (fun z => hb (by simp [z])) (fun z => hb (by simp [z])) q) hf
  self := fun A i s Q E st h => let ⟨⟨_, he⟩, _⟩ := st; wpAny_pyIter_enum he h
def iEnumZ (ta : TA) : TI := fun σ H R => ta σ H fun vs H1 => ∃ x y, vs = [.str x, .str y] ∧ R (ItZ (zipS x y)) H1
theorem pi_enumZ {X : Cx} {a b : Expr} {ta : TA} {p p2 pos pos2 tpos : Pos} {elts : List Expr} {kk : Nat} (hg : Gl X "enumerate") (hm : X.mg "enumerate" = none) (hg2 : Gl X "zip") (hm2 : X.mg "zip" = none) (ha : PA X [a, b] ta)
    (hs : starEach [a, b] X.env = (false, eval a X.env) :: starEach [b] X.env := by rfl) (hpl : (backTo pos2 (starEach [b] X.env)).any (·.1) = false := by rfl) (hc : X.calm = true := by rfl) :
    PI X (.Tuple elts kk tpos) (.Call (.Name "enumerate" p) [.Call (.Name "zip" p2) [a, b] [] pos2] [] pos) (iEnumZ ta) := by
  refine ⟨fun pins s σ H R I h => ?_⟩
  refine Call_ (ld_blt I hg hm boot_enumerate (PyProof.Rows.callWith_type1 (args_cons (Call_ (ld_blt I hg2 hm2 PyProof.Rows.boot_zip (PyProof.Rows.callWith_type1 (thn (ha.run pos2 pins s σ H _ I h) fun us s1 ⟨vs, H1, I1, r1, q1⟩ => ?_) hs hpl))))))
  obtain ⟨x, y, ex, q⟩ := q1
  subst ex
  cases r1 with
  | cons r rr =>
    cases rr with
    | cons r' rr =>
      cases rr
      obtain ⟨t, rfl⟩ := r
      obtain ⟨u, rfl⟩ := r'
      refine zip_begins2 (begins_text x t) (begins_text y u) trivial trivial fun h' hz hTI hTO h1 h2 hsz hk => args_nil (call_enumZ hz fun h2' he hsz2 hk2 => wpAny_pyIter_enum he ?_)
      replace hsz2 : h2'.objs.size = h'.objs.size + 1 := hsz2
      have hkk : ∀ b o, s1.heap.get? b = some o → h2'.get? b = some o := fun b o q => hk2 b o (hk b o q)
      have I2 : Inv X pins σ H1 { s1 with heap := h2' } := I1.kept (t' := s1.toks) hkk
      have i1 : h2'.IsStrIter s1.heap.objs.size (strIterType x) x t 0 := ⟨_, hk2 _ _ h1, rfl, rfl⟩
      have i2 : h2'.IsStrIter (s1.heap.objs.size + 1) (strIterType y) y u 0 := ⟨_, hk2 _ _ h2, rfl, rfl⟩
      have S : ZipSep2 (s1.heap.objs.size + 4) (s1.heap.objs.size + 2) (s1.heap.objs.size + 3) s1.heap.objs.size (s1.heap.objs.size + 1) [s1.heap.objs.size] [s1.heap.objs.size + 1] :=
        zip_sep2 (N := s1.heap.objs.size) (fp1 := []) (fp2 := []) (fun _ h => nomatch h) (fun _ h => nomatch h)
      have hE : h'.objs.size = s1.heap.objs.size + 5 := hsz
      refine ⟨h'.objs.size, [h'.objs.size, s1.heap.objs.size + 4, s1.heap.objs.size + 2, s1.heap.objs.size + 3, s1.heap.objs.size, s1.heap.objs.size + 1], _, ItZ (zipS x y), H1, rfl, I2,
        turn_enumZ x y t u h'.objs.size (s1.heap.objs.size + 4) (s1.heap.objs.size + 2) (s1.heap.objs.size + 3) s1.heap.objs.size (s1.heap.objs.size + 1) S (Nat.ne_of_gt (by rw [hE]; exact Nat.add_lt_add_left (by decide) _)) (Nat.ne_of_gt (by rw [hE]; exact Nat.add_lt_add_left (by decide) _)) (Nat.ne_of_gt (by rw [hE]; exact Nat.add_lt_add_left (by decide) _)) (Nat.ne_of_gt (by rw [hE]; exact Nat.lt_add_of_pos_right (by decide))) (Nat.ne_of_gt (by rw [hE]; exact Nat.add_lt_add_left (by decide) _)),
        ⟨⟨.none, he⟩, ⟨_, _, hk2 _ _ hz, .inl rfl⟩, hk2 _ _ hTI, ⟨_, _, hk2 _ _ hTO⟩, i1, i2⟩, fun c hcm => ?_, q⟩
      have e' : c = h'.objs.size ∨ c = s1.heap.objs.size + 4 ∨ c = s1.heap.objs.size + 2 ∨ c = s1.heap.objs.size + 3 ∨ c = s1.heap.objs.size ∨ c = s1.heap.objs.size + 1 := by simpa using hcm
      have hle : s1.heap.objs.size ≤ c := by
        rcases e' with z | z | z | z | z | z
        · rw [z, hE]; exact Nat.le_add_right _ _
        · rw [z]; exact Nat.le_add_right _ _
        · rw [z]; exact Nat.le_add_right _ _
        · rw [z]; exact Nat.le_add_right _ _
        · rw [z]; exact Nat.le_refl _
        · rw [z]; exact Nat.le_add_right _ _
      exact I1.fpOk hle (I1.hok.fresh hle)
section
variable {K : PySem.W.Frag} {σ : L2.St} {G A : Hp} {ta : TA}
theorem if_enumZ {a b : List Nat} (h : Era K ta σ G [.s (S a), .s (S b)]) : Itf K (iEnumZ ta) σ G ((a.zip b).zipIdx.map fun p => Dd.U [.i (p.2 : Int), .U [.s (S [p.1.1]), .s (S [p.1.2])]]) := fun G1 A e1 e2 R r =>
  h A (e1.trans e2) _ fun vs A2 ea z => by
    rcases z with _ | ⟨rfl, _ | ⟨rfl, _ | _⟩⟩
    refine ⟨S a, S b, rfl, r _ G1 A2 (.on e2 ea) fun i G' A' e3 e4 => ⟨fun d hd => ?_, fun hi => ?_⟩⟩
    · rw [List.getElem?_map, List.getElem?_zipIdx] at hd
      cases hx : (a.zip b)[i]? with
      | none => rw [hx] at hd; cases hd
      | some p =>
        rw [hx] at hd
        have ed : Dd.U [.i (((0 + i : Nat)) : Int), .U [.s (S [p.1]), .s (S [p.2])]] = d := Option.some.inj hd
        rw [Nat.zero_add] at ed
        have hz : (zipS (S a) (S b))[i]? = some (sgn p.1, sgn p.2) := by
          unfold zipS
          rw [List.getElem?_map]
          have : ((S a).cps.toList.zip (S b).cps.toList)[i]? = some p := hx
          rw [this]
          rfl
        refine ⟨(List.getElem?_eq_some_iff.mp hz).1, fun v A'' hyl => ?_⟩
        obtain ⟨T, U, x, y, rfl, hU, hTU, hT, rfl, hxy⟩ := hyl
        rw [hz] at hxy
        have ep := Option.some.inj hxy
        have ex : x = sgn p.1 := congrArg Prod.fst ep.symm
        have ey : y = sgn p.2 := congrArg Prod.snd ep.symm
        subst ex ey
        have st1 := Step.new (o := .tup [sgn p.1, sgn p.2]) e4 hU
        have hT2 : upd A' U (.tup [sgn p.1, sgn p.2]) T = none := by rw [upd_ne hTU]; exact hT
        refine ⟨_, st1.trans (.new st1.v hT2), ?_⟩
        rw [← ed]
        refine ⟨T, [.int (i : Int), .ref U], rfl, st_of upd_same, .int (i : Int), [.ref U], rfl, rfl, .ref U, [], rfl, ⟨U, [sgn p.1, sgn p.2], rfl, st_of ?_, sgn p.1, [sgn p.2], rfl, rfl, sgn p.2, [], rfl, rfl, rfl⟩, rfl⟩
        rw [upd_ne hTU.symm]
        exact upd_same
    · show i = (zipS (S a) (S b)).length
      rw [List.length_map, List.length_zipIdx, List.length_zip] at hi
      rw [zipS_len, S_size, S_size]
      exact hi
end
end Mi

set_option maxHeartbeats 4000000
namespace Mi
open PySem PySem.Spec PyProof.Rows L2 Evl PySem.W LamX NdefX
/-! ### sorted by a key function of any kind -/
/-- what is data at H is data later -/
def DpX (K : PySem.W.Frag) (H : Hp) (v : V) (d : PyData) : Prop := ∀ H', Ex H H' → Dp K H' v d
theorem DpX.mono {K : PySem.W.Frag} {H H' : Hp} {v : V} {d : PyData} (h : DpX K H v d) (e : Ex H H') : DpX K H' v d := fun H2 e2 => h H2 (e.trans e2)
section
variable {α : Type} {R : Value → α → Prop}
theorem eachR_of {iv : α → V} : ∀ {ys : List α} {us : List Value}, Vals (ys.map iv) us → EachIs (fun u z => RelV (iv z) u) us ys
  | [], _, h => by cases h; exact .nil
  | z :: r, _, h => by
    cases h with
    | cons a b => exact .cons a (eachR_of b)
theorem eachR_vals {iv : α → V} : ∀ {us : List Value} {ys : List α}, EachIs (fun u z => RelV (iv z) u) us ys → Vals (ys.map iv) us
  | _, _, .nil => .nil
  | _, _, .cons a b => .cons a (eachR_vals b)
theorem eachR_more {u : Value} {z : α} (hu : R u z) : ∀ {us : List Value} {ys : List α}, EachIs R us ys → EachIs R (us ++ [u]) (ys ++ [z])
  | _, _, .nil => .cons hu .nil
  | _, _, .cons a b => .cons a (eachR_more hu b)
theorem eachR_at : ∀ {us : List Value} {ys : List α} {i : Nat} {u : Value}, EachIs R us ys → us[i]? = some u → ∃ z, ys[i]? = some z ∧ R u z
  | [], _, _, _, _, h => by simp at h
  | _ :: _, _, 0, _, e, h => by
    cases e with
    | cons a b => exact ⟨_, rfl, Option.some.inj h ▸ a⟩
  | _ :: _, _, i + 1, _, e, h => by
    cases e with
    | cons a b => exact eachR_at (i := i) b h
end
/-- keys of any kind: the kind of sort is not asked where there are fewer than two -/
theorem sorts_one {prog : Program} {w : World} {A : Around} {s : Shared} {vs : List Value} {ds : List PyData} (e : EachIs (fun v d => ∃ as, Reads s.heap v d as) vs ds) (al : AllAlike ds) (few : ds.length < 2) (nn : ∀ d, d ∈ ds → d ≠ .none) (rm : ∀ d, d ∈ ds → A.units + d.depth < cLine) : SortsAt prog w A s (dataKind s.heap ds) vs := by
  refine ⟨fun v hv => ?_, general', fun E x y a b Q ha hb hq => ?_, fun h2 => ?_⟩
  · obtain ⟨d, hd, as, r⟩ := e.left v hv
    exact ⟨_, dataKind_some al hd r⟩
  · obtain ⟨d1, as1, m1, r1, rfl⟩ := dataKind_inv ha
    obtain ⟨d2, as2, m2, r2, rfl⟩ := dataKind_inv hb
    exact oneLt_alike (f := false) (fun z => nomatch z) r1 r2 (al d1 m1 d2 m2) (nn d1 m1) (Nat.lt_of_le_of_lt (Nat.add_le_add_left (Nat.min_le_left _ _) _) (rm d1 m1)) hq
  · have := e.length
    omega
abbrev ordk {α : Type} (b : Bool) (kd : α → PyData) (ys : List α) : List α := ys.mergeSort (dataLe b kd)
/-- the keys can be told apart -/
def KeysOk {α : Type} (kd : α → PyData) (ys : List α) : Prop := AllAlike (ys.map kd) ∧ (Sortable (ys.map kd) ∨ (ys.length < 2 ∧ ∀ y ∈ ys, kd y ≠ .none)) ∧ ∀ y ∈ ys, (kd y).depth ≤ 60
theorem KeysOk.sorts {α : Type} {kd : α → PyData} {ys : List α} (h : KeysOk kd ys) {prog : Program} {w : World} {A : Around} {s : Shared} {vs : List Value} (e : EachIs (fun v d => ∃ as, Reads s.heap v d as) vs (ys.map kd)) (hu : A.units + 65 < cLine) : SortsAt prog w A s (dataKind s.heap (ys.map kd)) vs := by
  obtain ⟨h1, h2, h3⟩ := h
  have rm : ∀ d, d ∈ ys.map kd → A.units + d.depth < cLine := fun d hd => by
    obtain ⟨y, hy, rfl⟩ := List.mem_map.mp hd
    have := h3 y hy
    omega
  rcases h2 with h2 | ⟨h2, h4⟩
  · exact SortsAt.data e h1 h2 rm
  · exact sorts_one e h1 (by rw [List.length_map]; exact h2) (fun d hd => by
      obtain ⟨y, hy, rfl⟩ := List.mem_map.mp hd
      exact h4 y hy) rm
theorem sorted_any {X : Cx} {b : Bool} {kw : List (Str × Value)} {pins : List (Addr × Obj)} {s : Shared} {σ : L2.St} {H : Hp} {a : Addr} {α : Type} {ys : List α} {iv : α → V} {kd : α → PyData} {fv : Value} {Q : VK}
    (hu : X.A.units + 67 < cLine) (I : Inv X pins σ H s) (hs : SqL X.K H a (ys.map iv)) (ko : KeysOk kd ys)
    (call : ∀ (t : Shared) (pins' : List (Addr × Obj)) (H' : Hp) (z : α) (u : Value), z ∈ ys → Ex H H' → Inv X pins' σ H' t → RelV (iv z) u → wpAny (model X.prog X.w) X.A.in1.in1 (call fv [u]) (EP X pins' σ fun v H2 => Ex H' H2 ∧ DpX X.K H2 v (kd z)) (fun _ _ => False) t)
    (ha1 : argsOk "sorted" ⟨[.ref a], kw⟩) (ha2 : ∀ x, argsOk "list.sort" ⟨[.ref x], kw⟩) (ht : ∀ x, Builtin.«list.sort» ⟨[.ref x], kw⟩ = ksk_tree x fv b)
    (q : ∀ H2 p, Ex H H2 → H2 p = none → Q (.ref p) (upd H2 p (.lst ((ordk b kd ys).map iv)))) :
    wpAny (model X.prog X.w) X.A (PySem.call (.builtin "sorted") [.ref a] kw) (EP X pins σ Q) X.xe s := by
  obtain ⟨its, rv, hl, hz⟩ := I.list hs
  have hev := eachR_of rv
  have hle : its.length = ys.length := hev.length
  have hZ : its.length ≤ sizeLine := by rw [← rv.length]; exact hz
  have un : X.A.in1.in1.units + 65 < cLine := by
    show X.A.units + 1 + 1 + 65 < cLine
    omega
  refine sorted_of_sort hl.isList hZ ha1 ha2 fun E' => ?_
  rw [ht]
  have hD := copyHeap_at s.heap its
  generalize eD : s.heap.objs.size + 1 = D at hD ⊢
  have hDs : D < (copyHeap s.heap its).objs.size := Heap.lt_size hD
  obtain ⟨e1, hD1⟩ : ∃ e1, ((copyHeap s.heap its).update D (Obj.mapSeq fun _ => (#[] : Array Value))).get? D = some (seqObj "list" #[] e1) := ⟨_, get?_update_seq hD fun _ => #[]⟩
  unfold ksk_tree
  refine wpAny_bind (listItems_at (s := { s with heap := copyHeap s.heap its }) hD rfl ?_)
  refine wpAny_bind (listUpdate_at (s := { s with heap := copyHeap s.heap its }) hD rfl ?_ (by rw [List.size_toArray]; exact hZ) (Nat.zero_le _))
  refine wpAny_bind (seqEpoch_at (s := { s with heap := (copyHeap s.heap its).update D (Obj.mapSeq fun _ => (#[] : Array Value)) }) hD1 rfl ?_)
  refine wpAny_bind (wpAny_newTuple ?_ (show its.length ≤ _ from hZ))
  refine wpAny_bind (wpAny_newList ?_ (Nat.zero_le _))
  refine wpAny_holding ?_
  have oldC : ∀ c o, s.heap.get? c = some o → c ≠ D ∧ (copyHeap s.heap its).get? c = some o := fun c o e => ⟨fun z => by
    have h1 : c < s.heap.objs.size := Heap.lt_size e
    rw [z, ← eD] at h1
    exact absurd h1 (Nat.not_lt.mpr (Nat.le_succ _)), copyHeap_old e⟩
  have dge : s.heap.objs.size ≤ D := Nat.le_of_succ_le (Nat.le_of_eq eD)
  have szK : (((copyHeap s.heap its).update D (Obj.mapSeq fun _ => (#[] : Array Value))).push (seqObj "tuple" its.toArray 0)).objs.size = (copyHeap s.heap its).objs.size + 1 := by rw [size_push', Heap.size_update]
  have hK : ((((copyHeap s.heap its).update D (Obj.mapSeq fun _ => (#[] : Array Value))).push (seqObj "tuple" its.toArray 0)).push (seqObj "list" #[] 0)).get? (((copyHeap s.heap its).update D (Obj.mapSeq fun _ => (#[] : Array Value))).push (seqObj "tuple" its.toArray 0)).objs.size = some (seqObj "list" #[] 0) := Heap.get?_push_size _ rfl
  have hD2 : ((((copyHeap s.heap its).update D (Obj.mapSeq fun _ => (#[] : Array Value))).push (seqObj "tuple" its.toArray 0)).push (seqObj "list" #[] 0)).get? D = some (seqObj "list" #[] e1) := Heap.get?_push_of_some _ (Heap.get?_push_of_some _ hD1)
  have old2 : ∀ c o, s.heap.get? c = some o → ((((copyHeap s.heap its).update D (Obj.mapSeq fun _ => (#[] : Array Value))).push (seqObj "tuple" its.toArray 0)).push (seqObj "list" #[] 0)).get? c = some o := fun c o e => by
    obtain ⟨c1, c2⟩ := oldC c o e
    exact Heap.get?_push_of_some _ (Heap.get?_push_of_some _ ((Heap.get?_update_ne _ _ _ _ c1).trans c2))
  have hKge : s.heap.objs.size ≤ (((copyHeap s.heap its).update D (Obj.mapSeq fun _ => (#[] : Array Value))).push (seqObj "tuple" its.toArray 0)).objs.size := by rw [szK]; omega
  have hDK : D ≠ (((copyHeap s.heap its).update D (Obj.mapSeq fun _ => (#[] : Array Value))).push (seqObj "tuple" its.toArray 0)).objs.size := by rw [szK]; omega
  show wpAny _ _ (ksk_rest D fv b its.toArray e1 (.ref (((copyHeap s.heap its).update D (Obj.mapSeq fun _ => (#[] : Array Value))).push (seqObj "tuple" its.toArray 0)).objs.size)) _ _ { s with heap := ((((copyHeap s.heap its).update D (Obj.mapSeq fun _ => (#[] : Array Value))).push (seqObj "tuple" its.toArray 0)).push (seqObj "list" #[] 0)) }
  revert hK hD2 old2 hKge hDK
  generalize (((copyHeap s.heap its).update D (Obj.mapSeq fun _ => (#[] : Array Value))).push (seqObj "tuple" its.toArray 0)).objs.size = kS
  generalize ((((copyHeap s.heap its).update D (Obj.mapSeq fun _ => (#[] : Array Value))).push (seqObj "tuple" its.toArray 0)).push (seqObj "list" #[] 0)) = hh
  intro hK hD2 old2 hKge hDK
  have I2 : Inv X pins σ H { s with heap := hh } := I.kept (t' := s.toks) old2
  have fD : FpOk X pins H D := I.fpOk dge (I.hok.fresh dge)
  have fK : FpOk X pins H kS := I.fpOk hKge (I.hok.fresh hKge)
  have repin : ∀ {H' : Hp} {t : Shared} {kA : Array Value} {e : Nat}, Inv X pins σ H' t → t.heap.get? D = some (seqObj "list" #[] e1) → H' D = none → t.heap.get? kS = some (seqObj "list" kA e) → H' kS = none → Inv X (pins ++ [(D, seqObj "list" #[] e1), (kS, seqObj "list" kA e)]) σ H' t := by
    intro H' t kA e J d1 d2 k1 k2
    refine J.pins_of fun p hp => ?_
    rcases List.mem_append.mp hp with h | h
    · exact J.pin p (List.mem_append_right _ h)
    · rcases List.mem_cons.mp h with rfl | h
      · exact ⟨d1, d2, fD.2.1, fD.2.2.1, fun v => by simp [seqObj]⟩
      · rw [List.mem_singleton.mp h]
        exact ⟨k1, k2, fK.2.1, fK.2.2.1, fun v => by simp [seqObj]⟩
  unfold ksk_rest
  refine wpAny_bind (wpAny_rule ?_)
  first
    | rw [List.forIn_toArray]
    | (rw [← Array.forIn_toList]; simp only [List.toList_toArray])
    | rw [← Array.forIn_toList]
  refine wpAny_bind (ksk_fold (fun i t => ∃ H' kA e, Ex H H' ∧ Inv X (pins ++ [(D, seqObj "list" #[] e1), (kS, seqObj "list" kA e)]) σ H' t ∧ EachIs (fun u z => ∃ v, RelV v u ∧ DpX X.K H' v (kd z)) kA.toList (ys.take i)) its 0 { s with heap := hh } ⟨H, #[], 0, Ex.refl H, repin I2 hD2 fD.1 hK fK.1, by rw [List.take_zero]; exact .nil⟩ ?turn ?over)
  case turn =>
    rintro j x t hx ⟨H', kA, e, hex, J, hk⟩
    simp only [Nat.zero_add] at hk ⊢
    obtain ⟨z, hz1, rx⟩ := eachR_at hev hx
    have hj : j < its.length := (List.getElem?_eq_some_iff.mp hx).1
    have hkz : kA.size ≤ its.length := by
      have h1 := hk.length
      rw [Array.length_toList, List.length_take] at h1
      omega
    refine wpAny_bind (wpAny_attempt (wpAny_mono (call t _ H' z x (List.mem_of_getElem? hz1) hex J rx) (fun u t2 hu => ?_) fun _ _ hF => False.elim hF))
    obtain ⟨v, H2, J2, ru, hex2, hdp⟩ := hu
    have pD := J2.pin (D, seqObj "list" #[] e1) (List.mem_append_right _ (List.mem_append_right _ (.head _)))
    have pK := J2.pin (kS, seqObj "list" kA e) (List.mem_append_right _ (List.mem_append_right _ (.tail _ (.head _))))
    try dsimp only
    obtain ⟨c2, hc2⟩ : ∃ c2, (t2.heap.update kS (Obj.mapSeq (·.push u))).get? kS = some (seqObj "list" (kA.push u) c2) := ⟨_, get?_update_seq pK.1 (·.push _)⟩
    have keepK : ∀ b o, b ∉ [kS] → t2.heap.get? b = some o → (t2.heap.update kS (Obj.mapSeq (·.push u))).get? b = some o := fun b o hb ho => (Heap.get?_update_ne _ _ _ _ (fun z => hb (by rw [z]; exact .head _))).trans ho
    have hsz2 : (kA.push u).size ≤ sizeLine + 1 := by
      rw [Array.size_push]
      omega
    refine wpAny_bind (listUpdate_at pK.1 rfl ?_ (by omega) hsz2)
    refine wpAny_pure ⟨rfl, H2, kA.push u, c2, hex.trans hex2, ?_, ?_⟩
    · refine repin (Inv.turnedL (t' := t2.toks) J2.unpinned keepK (fun b hb => ?_)) ?_ pD.2.1 hc2 pK.2.1
      · rw [List.mem_singleton.mp hb]
        exact ⟨pK.2.1, fK.2⟩
      · exact keepK D _ (fun h => hDK (List.mem_singleton.mp h)) pD.1
    · have ek : ys.take (j + 1) = ys.take j ++ [z] := by rw [List.take_add_one, hz1]; rfl
      rw [ek, Array.toList_push]
      exact eachR_more ⟨v, ru, hdp⟩ (hk.mono fun u z ⟨v, r, d⟩ => ⟨v, r, d.mono hex2⟩)
  case over =>
    rintro t ⟨H', kA, e, hex, J, hk⟩
    have e3 : ys.take (0 + its.length) = ys := List.take_of_length_le (by omega)
    rw [e3] at hk
    have hsz : kA.size = its.length := by
      have h1 := hk.length
      rw [Array.length_toList] at h1
      omega
    have pD := J.pin (D, seqObj "list" #[] e1) (List.mem_append_right _ (List.mem_append_right _ (.head _)))
    have pK := J.pin (kS, seqObj "list" kA e) (List.mem_append_right _ (List.mem_append_right _ (.tail _ (.head _))))
    try dsimp only
    refine wpAny_bind (listItems_at pK.1 rfl ?_)
    have rd : EachIs (fun v d => ∃ as, Reads t.heap v d as) kA.toList (ys.map kd) := by
      have h1 : EachIs (fun v z => ∃ as, Reads t.heap v (kd z) as) kA.toList ys := hk.mono fun u z ⟨v, r, d⟩ => Dp.reads J (kd z) v u (d H' (Ex.refl _)) r
      exact each_map (R := fun v d => ∃ as, Reads t.heap v d as) kd h1
    have kb : KeepsBut D (less t.heap kS) t.heap := fun c o hc ho => by
      have hck : c ≠ kS := fun z => by rw [z, less_at pK.1] at ho; cases ho
      rw [less_ne hck] at ho
      exact ho
    refine keyH_end (κ := dataKind t.heap (ys.map kd)) (h₁ := less t.heap kS) kb (less_at pK.1) pK.1 pD.1 (Ne.symm hDK) (ko.sorts rd un) hsz hZ fun h4 tk c k4 n4 => ⟨rfl, ?_⟩
    have out1 := keyedOut_each (rev := b) kd ⟨t.heap, kA.toList, ko.1, rfl, rd⟩ hev
    have keep4 : ∀ c o, c ∉ [kS, D] → t.heap.get? c = some o → h4.get? c = some o := fun c o hc ho => by
      refine k4 c o (fun z => hc (by rw [z]; simp)) ?_
      rw [less_ne (fun z => hc (by rw [z]; simp))]
      exact ho
    have hlen4 : ((ordk b kd ys).map iv).length ≤ sizeLine := by
      unfold ordk
      rw [List.length_map, List.length_mergeSort]
      omega
    have J4 : Inv X pins σ (upd H' D (.lst ((ordk b kd ys).map iv))) { t with heap := h4, toks := tk } := by
      refine inv_track J.unpinned keep4 (fun c hc => ?_) (by simp) ⟨hlen4, _, c, eachR_vals out1, n4⟩
      rcases List.mem_cons.mp hc with rfl | hc
      · exact ⟨pK.2.1, fK.2⟩
      · rw [List.mem_singleton.mp hc]
        exact ⟨pD.2.1, fD.2⟩
    exact ⟨.ref D, _, J4, rfl, q H' D hex pD.2.1⟩
/-! ### lambdas -/
/-- the object at f is the lambda of these words -/
def FnL (f : Addr) (F : NF) (body : Expr) : HO := .ext fun h => ∃ (od : Option Addr) (sl : Array (Option Value)) (pm ctv : Value), h.get? f = some (⟨.type "function", od, .func (PySem.W.kla_fn F.name F.qual F.params body F.scope F.cl pm (.ref F.c) ctv), sl⟩ : Obj)
theorem fnL_ok {P : Program} {w : World} {H : Hp} {h : Heap} {f : Addr} {F : NF} {body : Expr} {pm ctv : Value} (e : h.get? f = some { cls := .type "function", data := .func (PySem.W.kla_fn F.name F.qual F.params body F.scope F.cl pm (.ref F.c) ctv) }) : ObjOk P w H h f (FnL f F body) :=
  ⟨⟨_, _, pm, ctv, e⟩, ⟨_, e⟩, fun h1 h2 ⟨od, sl, p, t, z⟩ st => ⟨od, sl, p, t, st _ z⟩⟩
theorem fnL_at {P : Program} {w : World} {H : Hp} {h : Heap} {f : Addr} {F : NF} {body : Expr} (hok : HOk P w H h) (e : H f = some (FnL f F body)) : ∃ (od : Option Addr) (sl : Array (Option Value)) (pm ctv : Value), h.get? f = some (⟨.type "function", od, .func (PySem.W.kla_fn F.name F.qual F.params body F.scope F.cl pm (.ref F.c) ctv), sl⟩ : Obj) := (hok f _ e).1
abbrev lamF (X : Cx) (params : Arguments) (scope : Scope) (c' : Addr) : NF := ⟨"<lambda>", X.env.qual ++ "<lambda>", params, [], scope, cloFrom X.env.cells scope.names [], c'⟩
/-- all but the object at P stays -/
def KeepP (P : Addr) (H H1 : Hp) : Prop := ∀ b o, b ≠ P → H b = some o → H1 b = some o
section
variable {X : Cx} {pins : List (Addr × Obj)} {σ : L2.St} {H : Hp} {s : Shared}
theorem lam_eval {c P : Addr} {params : Arguments} {body : Expr} {scope : Scope} {pos : Pos} {E : Value → Shared → Prop} {Q : Value → Shared → Prop} (I : Inv X pins σ H s) (TB : TabB X.base X.mg c P) (hcode : X.env.code = .ref c) (hT : TabS H P (X.env.qual ++ "<lambda>")) (hdef : defaultsOf params X.env = ([], []))
    (hfree : ∀ y ∈ scope.names, y.2 = .free → ∃ c, X.env.cells.lookup y.1 = some c)
    (k : ∀ (f c' : Addr) (H1 : Hp) (s1 : Shared), Inv X pins σ H1 s1 → KeepP P H H1 → TabS H1 P (X.env.qual ++ "<lambda>") → H f = none → H1 f = some (FnL f (lamF X params scope c') body) → H1 c' = some (CodeO c' (X.env.qual ++ "<lambda>")) → Q (.ref f) s1) :
    wpAny (model X.prog X.w) X.A (eval (.Lambda params body scope pos) X.env) Q E s := by
  obtain ⟨ps, hP, tr, am⟩ := hT
  have bP : s.heap.BuiltinsAt X.mg P := TB.bm.keeps I.bk
  have tb : s.heap.get? P = some { cls := .none, data := .fields ps } := I.hok P _ hP
  refine PySem.W.kla_eval hdef ?_
  cases hc : codeAmong pos ps.toList with
  | some cv =>
    obtain ⟨c', rfl, hco⟩ := am pos cv hc
    refine PySem.W.kla_makeFunctionHit (mg := X.mg) (c := c) (P := P) (ps := ps) (closure_ok hfree) I.ok.glob (I.mod.glob.keeps I.bk) hcode (TB.code.keeps I.bk) tb tr hc bP fun ctv g tk hx hsz => ?_
    have I1 : Inv X pins σ H { s with heap := g, toks := tk } := I.kept hx
    have nF : H g.objs.size = none := I1.hok.fresh (Nat.le_refl _)
    have I2 := I1.laid (t' := tk) (a := g.objs.size) (o := FnL g.objs.size (lamF X params scope c') body) (fun b u e => Heap.get?_push_of_some _ e) (Nat.le_refl _) (fnL_ok (pm := (X.mg "__name__").getD .none) (ctv := ctv) (Heap.get?_push_size _ rfl))
    have up : ∀ b o, H b = some o → upd H g.objs.size (FnL g.objs.size (lamF X params scope c') body) b = some o := fun b o e => (upd_ne (ne_of_none e nF)).trans e
    exact k g.objs.size c' _ _ I2 (fun b o _ e => up b o e) (TabS.ext ⟨ps, hP, tr, am⟩ up) nF upd_same (up _ _ hco)
  | none =>
    refine PySem.W.kla_makeFunction (mg := X.mg) (c := c) (P := P) (ps := ps) (closure_ok hfree) I.ok.glob (I.mod.glob.keeps I.bk) hcode (TB.code.keeps I.bk) tb tr hc TB.gP bP fun c' ctv g tk hx hge hlt hrec htb => ?_
    obtain ⟨c2, oc, vs, t, e2, hoc, hd, hv⟩ := hrec
    cases e2
    have nC : H c' = none := I.hok.fresh hge
    have I1 := inv_table (t' := tk) (q := X.env.qual ++ "<lambda>") (more := #[rawInt pos.line, rawInt pos.col, .ref c']) (h' := g) I hP (fun b o hb e => hx b o hb e) htb hge ⟨oc, vs, t, hoc, hd, hv⟩
    have nF := I1.hok.fresh (Nat.le_refl _)
    have I2 := I1.laid (t' := tk) (a := g.objs.size) (o := FnL g.objs.size (lamF X params scope c') body) (fun b u e => Heap.get?_push_of_some _ e) (Nat.le_refl _) (fnL_ok (pm := (X.mg "__name__").getD .none) (ctv := ctv) (Heap.get?_push_size _ rfl))
    have nH : H g.objs.size = none := I.hok.fresh (Nat.le_trans hge (Nat.le_of_lt hlt))
    have nP : P ≠ g.objs.size := ne_of_none hP nH
    have nPc : P ≠ c' := ne_of_none hP nC
    have up : KeepP P H (upd (upd (upd H P (.tbl (ps ++ #[rawInt pos.line, rawInt pos.col, .ref c']))) c' (CodeO c' (X.env.qual ++ "<lambda>"))) g.objs.size (FnL g.objs.size (lamF X params scope c') body)) := fun b o hb e => by
      rw [upd_ne (ne_of_none e nH), upd_ne (ne_of_none e nC), upd_ne hb]
      exact e
    have atc : upd (upd (upd H P (.tbl (ps ++ #[rawInt pos.line, rawInt pos.col, .ref c']))) c' (CodeO c' (X.env.qual ++ "<lambda>"))) g.objs.size (FnL g.objs.size (lamF X params scope c') body) c' = some (CodeO c' (X.env.qual ++ "<lambda>")) := by rw [upd_ne (Nat.ne_of_lt hlt), upd_same]
    have eL : (ps ++ #[rawInt pos.line, rawInt pos.col, .ref c']).toList = ps.toList ++ [rawInt pos.line, rawInt pos.col, .ref c'] := by simp
    refine k g.objs.size c' _ _ I2 up ⟨ps ++ #[rawInt pos.line, rawInt pos.col, .ref c'], by rw [upd_ne nP, upd_ne nPc, upd_same], by rw [eL]; exact PySem.TriplesOk_snoc _ _ _ _ tr, fun p' cv hcv => ?_⟩ nH upd_same atc
    rw [eL] at hcv
    rcases among_app _ tr hcv with z | z
    · obtain ⟨c0, x1, x2⟩ := am p' cv z
      refine ⟨c0, x1, up _ _ (fun q => ?_) x2⟩
      rw [q, hP] at x2
      exact codeO_ne (c := P) _ (Option.some.inj x2).symm
    · exact ⟨c', z, atc⟩
end
/-- a call of a lambda, by its body -/
theorem lam_call {P : Program} {w : World} {K : PySem.W.Frag} {mg : Str → Option Value} {base : Heap} {N ps fr : List Str} {F : NF} {f : Addr} {body : Expr} {k : Nat} {A : Around} {outer : List Env} {s : Shared} {H : Hp} {us : List Value} {vs : List V} {ws : List (Option V)} {tb : TE} {Q : VK}
    (S : NScope N ps fr F.scope) (hb : ∀ (pm ctv : Value) (us : List Value), us.length = ps.length → bindArgs (PySem.W.kla_fn F.name F.qual F.params body F.scope F.cl pm (.ref F.c) ctv) ⟨us, []⟩ = pure (ps.zip us)) (hr : Room (k + 1) A) (e0 : Env0 P w K mg base A outer s H) (hf : H f = some (FnL f F body)) (hc : H F.c = some (CodeO F.c F.qual))
    (C : CellsAt F.cl fr ws s.heap H) (r : Vals vs us) (hl : vs.length = ps.length) (hbody : Room k (A.deeper (envF F f s.heap.objs.size)) → PE (ncx CX0 P w K mg base N F f A outer s H E0) body tb) (hq : tb (startF N vs ws) H Q) :
    codeAny (model P w) A (.call (.ref f) ⟨us, []⟩) (CR CX0 outer P w H s Q E0) s := by
  have lim : s.heap.NoLimit := e0.mod.nolimit.keeps fun b o e => (e0.bs b o e).1
  obtain ⟨od, sl, pm, ctv, ho⟩ := fnL_at e0.hok hf
  refine PySem.W.kla_callFunE hr.depth ho rfl S.co S.gen rfl (codeO_at e0.hok hc) ?_
  rw [hb pm ctv us (by rw [← r.length]; exact hl)]
  refine wpAny_pure (wpAny_newFunctionEnv S.nocell (fun ⟨n, _⟩ hy => S.par n (List.of_mem_zip hy).1) (fun g hns hsb => ⟨lim.fresh _ hsb, ?_⟩) S.kind)
  show codeAny _ _ (.expr body (envF F f s.heap.objs.size)) _ _
  have kp : ∀ b o, s.heap.get? b = some o → g.get? b = some o := fun b o e => hsb.extBut b o (Nat.ne_of_lt (Heap.lt_size e)) (Heap.get?_push_of_some _ e)
  have J : Inv (ncx CX0 P w K mg base N F f A outer s H E0) [] (startF N vs ws) H { s with heap := g, toks := s.toks + (ps.zip us).length } := inv_startN S hr.hd e0 hl r C hns kp
  refine PySem.W.kla_codeExpr (wpAny_mono ((hbody (hr.deeper _)).run [] _ _ H Q J hq) (fun v s1 h1 => ?_) fun e s1 h1 => h1)
  obtain ⟨v1, H1, J1, rv, q⟩ := h1
  exact ⟨v1, H1, J1.os, J1.bare, J1.base, J1.hok, rv, q⟩
/-! ### sorted(e, key=lambda x: ..), nothing captured -/
def tLam1 (P : Addr) (q : Str) (mk : Addr → NF) (body : Expr) : TE := fun σ H Q => TabS H P q ∧ ∀ (f c' : Addr) (H1 : Hp), KeepP P H H1 → TabS H1 P q → H f = none → H1 f = some (FnL f (mk c') body) → H1 c' = some (CodeO c' q) → Q (.ref f) H1
def rSortL (K : PySem.W.Frag) (N : List Str) (mk : Addr → NF) (body : Expr) (q : Str) (tb : TE) : List V → List V → Hp → VK → Prop := fun vs zs H Q => ∃ (a f c' : Addr) (α : Type) (ys : List α) (iv : α → V) (kd : α → PyData), vs = [.ref a] ∧ zs = [.ref f] ∧ SqL K H a (ys.map iv) ∧ KeysOk kd ys ∧
  H f = some (FnL f (mk c') body) ∧ H c' = some (CodeO c' q) ∧ (∀ z ∈ ys, ∀ H', Ex H H' → tb (startF N [iv z] []) H' fun v H2 => Ex H' H2 ∧ DpX K H2 v (kd z)) ∧ ∀ H2 p, Ex H H2 → H2 p = none → Q (.ref p) (upd H2 p (.lst ((ordk false kd ys).map iv)))
section
variable {X : Cx} {k : Nat} {c P : Addr} {pn : Str} {params : Arguments} {body : Expr} {scope : Scope} {N : List Str} {tb : TE} {lpos : Pos}
theorem pe_lam (TB : TabB X.base X.mg c P) (hcode : X.env.code = .ref c) (hfree : ∀ y ∈ scope.names, y.2 = .free → ∃ c, X.env.cells.lookup y.1 = some c) (hdef : defaultsOf params X.env = ([], []) := by rfl) : PE X (.Lambda params body scope lpos) (tLam1 P (X.env.qual ++ "<lambda>") (lamF X params scope) body) :=
  ⟨fun pins s σ H Q I h => lam_eval I TB hcode h.1 hdef hfree fun f c' H1 s1 I1 kp t hf h1 h2 => ⟨.ref f, H1, I1, rfl, h.2 f c' H1 kp t hf h1 h2⟩⟩
theorem cr_sortL (hr : Room (k + 3) X.A) (S : NScope N [pn] [] scope) (hcl : cloFrom X.env.cells scope.names [] = [])
    (hb : ∀ (c' : Addr) (pm ctv : Value) (us : List Value), us.length = 1 → bindArgs (PySem.W.kla_fn "<lambda>" (X.env.qual ++ "<lambda>") params body scope (cloFrom X.env.cells scope.names []) pm (.ref c') ctv) ⟨us, []⟩ = pure ([pn].zip us))
    (hbody : ∀ (c' f : Addr) (A : Around) (outer : List Env) (s : Shared) (H : Hp), Room k (A.deeper (envF (lamF X params scope c') f s.heap.objs.size)) → PE (ncx CX0 X.prog X.w X.K X.mg X.base N (lamF X params scope c') f A outer s H E0) body tb) :
    CallRK X (.builtin "sorted") [Str.ofString "key"] (rSortL X.K N (lamF X params scope) body (X.env.qual ++ "<lambda>") tb) := by
  rintro pins s σ H vs zs us ws Q I r rz ⟨a, f, c', α, ys, iv, kd, rfl, rfl, hs, ko, hf, hc, hk, q⟩
  obtain rfl := Vals.ref1 r
  obtain ⟨w1, rfl, e1⟩ := vals1 rz
  obtain rfl : w1 = Value.ref f := e1
  have un := hr.un
  refine sorted_any (b := false) (by omega) I hs ko (fun t pins' H' z u hz hex J rx => ?_) (ksk_s1 _ _) (fun _ => ksk_l1 _ _) (fun x => ksk_t1 f x) q
  have hr2 : Room (k + 1) X.A.in1.in1 := (Room.in1 (show Room (k + 1 + 1 + 1) X.A from hr)).in1
  have C : CellsAt (lamF X params scope c').cl [] [] t.heap H' := by
    show CellsAt (cloFrom X.env.cells scope.names []) [] [] t.heap H'
    rw [hcl]
    exact ⟨rfl, (fun y c e => nomatch e), (fun x y c e => nomatch e), (fun i y e => nomatch e)⟩
  refine wpAny_call (codeAny_mono (lam_call (F := lamF X params scope c') (N := N) (ps := [pn]) (vs := [iv z]) (ws := []) S (hb c') hr2 J.env0.in1.in1 (hex f _ hf) (hex c' _ hc) C (.cons rx .nil) rfl (fun hr3 => hbody c' f _ _ _ _ hr3) (hk z hz H' hex)) fun r t' hq => ?_)
  cases r with
  | error e => exact hq.elim
  | ok fl =>
    cases fl with
    | ret u => exact J.after hq
    | next => exact hq.elim
    | brk => exact hq.elim
    | cont => exact hq.elim
theorem pe_sortL {p pos k1 : Pos} {e : Expr} {ta : TA} (hr : Room (k + 3) X.A) (hg : Gl X "sorted") (hm : X.mg "sorted" = none) (ha : PA X [e] ta) (TB : TabB X.base X.mg c P) (hcode : X.env.code = .ref c) (S : NScope N [pn] [] scope) (hcl : cloFrom X.env.cells scope.names [] = [])
    (hb : ∀ (c' : Addr) (pm ctv : Value) (us : List Value), us.length = 1 → bindArgs (PySem.W.kla_fn "<lambda>" (X.env.qual ++ "<lambda>") params body scope (cloFrom X.env.cells scope.names []) pm (.ref c') ctv) ⟨us, []⟩ = pure ([pn].zip us))
    (hbody : ∀ (c' f : Addr) (A : Around) (outer : List Env) (s : Shared) (H : Hp), Room k (A.deeper (envF (lamF X params scope c') f s.heap.objs.size)) → PE (ncx CX0 X.prog X.w X.K X.mg X.base N (lamF X params scope c') f A outer s H E0) body tb)
    (hdef : defaultsOf params X.env = ([], []) := by rfl)
    (hs : backTo pos (starEach [e] X.env) = (false, eval e X.env) :: backTo pos (starEach [] X.env) := by rfl) (hpl : (backTo pos (starEach [e] X.env)).any (·.1) = false := by rfl)
    (hall : (backToKw pos (keywordEach [⟨some "key", .Lambda params body scope lpos, k1⟩] X.env)).all (·.1.isSome) = true := by rfl) (hnone : (backToKw pos (keywordEach [⟨some "key", .Lambda params body scope lpos, k1⟩] X.env)).any (·.1.isNone) = false := by rfl) (hks : (backToKw pos (keywordEach [⟨some "key", .Lambda params body scope lpos, k1⟩] X.env)).filterMap (·.1) = [Str.ofString "key"] := by rfl) :
    PE X (.Call (.Name "sorted" p) [e] [⟨some "key", .Lambda params body scope lpos, k1⟩] pos) (tCKw (rSortL X.K N (lamF X params scope) body (X.env.qual ++ "<lambda>") tb) ta (tCons (tLam1 P (X.env.qual ++ "<lambda>") (lamF X params scope) body) tNil)) :=
  pe_callBK (cr_sortL hr S hcl hb hbody) hg hm (by rfl) ha (pk_cons (pe_lam TB hcode (fun y hy e => absurd e (fun z => by
    have h1 := S.free y hy z
    simp at h1)) hdef) pk_nil) (by decide) (by decide) hs hpl hall hnone hks
end
/-! ### what runs while a table of code objects may grow: the table stands outside of the view -/
def Tb (P : Addr) (q : Str) (G A : Hp) : Prop := G P = none ∧ TabS A P q
theorem Tb.step {P : Addr} {q : Str} {G A G' A' : Hp} (h : Tb P q G A) (s : Step G A G' A') : Tb P q G' A' := by
  obtain ⟨g, t⟩ := h
  have t0 := t
  obtain ⟨ps, hp, _⟩ := t
  exact ⟨s.f P (by rw [hp]; simp) g, t0.ext s.a⟩
def EfT (K : PySem.W.Frag) (P : Addr) (q : Str) (te : TE) (σ : L2.St) (G : Hp) (d : Dd) : Prop := ∀ G1 A, Ex G G1 → Ex G1 A → Tb P q G1 A → ∀ Q : VK, (∀ v G' A', Ex G1 G' → Ex G' A' → Tb P q G' A' → Is K G' d v → Q v A') → te σ A Q
def EfaT (K : PySem.W.Frag) (P : Addr) (q : Str) (ta : TA) (σ : L2.St) (G : Hp) (ds : List Dd) : Prop := ∀ G1 A, Ex G G1 → Ex G1 A → Tb P q G1 A → ∀ Q : List V → Hp → Prop, (∀ vs G' A', Ex G1 G' → Ex G' A' → Tb P q G' A' → IsAll K G' ds vs → Q vs A') → ta σ A Q
def EtT (P : Addr) (q : Str) (t : TT) (σ : L2.St) (G : Hp) (b : Bool) : Prop := ∀ G1 A, Ex G G1 → Ex G1 A → Tb P q G1 A → ∀ Q : Bool → Hp → Prop, (∀ G' A', Ex G1 G' → Ex G' A' → Tb P q G' A' → Q b A') → t σ A Q
def ItfT (K : PySem.W.Frag) (P : Addr) (q : Str) (wi : TI) (σ : L2.St) (G : Hp) (ds : List Dd) : Prop := ∀ G1 A, Ex G G1 → Ex G1 A → Tb P q G1 A → ∀ R, (∀ J G2 A2, Ex G1 G2 → Ex G2 A2 → Tb P q G2 A2 → Wk K J G2 ds → R J A2) → wi σ A R
/-- a def's promise -/
def spT (K : PySem.W.Frag) (P : Addr) (q : Str) {T : Type} (pre : T → Prop) (args : T → List Dd) (ret : T → Dd) : Sp := fun vs A Q _ => ∃ (a : T) (G : Hp), pre a ∧ Ex G A ∧ Tb P q G A ∧ IsAll K G (args a) vs ∧ ∀ v G' A', Ex G G' → Ex G' A' → Tb P q G' A' → Is K G' (ret a) v → Q v A'
section
variable {K : PySem.W.Frag} {P : Addr} {q : Str} {σ : L2.St} {G G0 A : Hp} {te ta tb tl : TE} {t u : TT} {tr : TA} {wi : TI} {g : TG} {d d' d1 d2 : Dd} {ds : List Dd} {D : Ends} {tu tw tz : TS} {b a : Bool} {T : Type} {pre : T → Prop} {args : T → List Dd} {ret : T → Dd} {E : XK}
theorem EfT.mono (e : Ex G0 G) (h : EfT K P q te σ G0 d) : EfT K P q te σ G d := fun G1 A e1 e2 tb Q k => h G1 A (e.trans e1) e2 tb Q k
theorem EfT.to (h : EfT K P q te σ G d) (e : d = d') : EfT K P q te σ G d' := e ▸ h
theorem EfT.as (h : EfT K P q te σ G d) (f : ∀ H v, Is K H d v → Is K H d' v) : EfT K P q te σ G d' := fun G1 A e1 e2 tb Q k => h G1 A e1 e2 tb Q fun v G' A' x1 x2 x3 z => k v G' A' x1 x2 x3 (f G' v z)
theorem EfT.of (h : Ef K te σ G d) : EfT K P q te σ G d := fun G1 A e1 e2 tb Q k => h G1 A e1 e2 Q fun v G' A' s z => k v G' A' s.g s.v (tb.step s) z
theorem efaT_nil : EfaT K P q tNil σ G [] := fun G1 A e1 e2 tb Q k => k [] G1 A (Ex.refl _) e2 tb .nil
theorem efaT_cons (h : EfT K P q ta σ G d) (hr : EfaT K P q tr σ G ds) : EfaT K P q (tCons ta tr) σ G (d :: ds) := fun G1 A e1 e2 tb Q k =>
  h G1 A e1 e2 tb _ fun v G2 A2 x1 x2 x3 z => hr G2 A2 (e1.trans x1) x2 x3 _ fun vs G3 A3 y1 y2 y3 z3 => k _ G3 A3 (x1.trans y1) y2 y3 (.cons (z.mono y1) z3)
theorem EfaT.of (h : Efa K tr σ G ds) : EfaT K P q tr σ G ds := fun G1 A e1 e2 tb Q k => h G1 A e1 e2 Q fun vs G' A' s z => k vs G' A' s.g s.v (tb.step s) z
theorem efT_op {r : R2} (ha : EfT K P q ta σ G d1) (hb : EfT K P q tb σ G d2) (hr : Rof K r d1 d2 d) : EfT K P q (tOp r ta tb) σ G d := fun G1 A e1 e2 t0 Q k =>
  ha G1 A e1 e2 t0 _ fun v1 G2 A2 x1 x2 x3 z => hb G2 A2 (e1.trans x1) x2 x3 _ fun v2 G3 A3 y1 y2 y3 z3 => hr v1 v2 G3 A3 y2 (z.mono y1) z3 Q fun v G4 A4 s z4 => k v G4 A4 ((x1.trans y1).trans s.g) s.v (y3.step s) z4
theorem efT_cb {rc : List V → Hp → VK → Prop} (h : EfaT K P q tr σ G ds) (hr : Rcf K rc ds d) : EfT K P q (tCB rc tr) σ G d := fun G1 A e1 e2 t0 Q k =>
  h G1 A e1 e2 t0 _ fun vs G2 A2 x1 x2 x3 z => hr vs G2 A2 x2 z Q fun v G3 A3 s z3 => k v G3 A3 (x1.trans s.g) s.v (x3.step s) z3
theorem efT_callF (a : T) (h : EfaT K P q tr σ G ds) (hd : ds = args a) (hp : pre a) : EfT K P q (tCall (spF K pre args ret) [] E tr) σ G (ret a) := fun G1 A e1 e2 t0 Q k =>
  h G1 A e1 e2 t0 _ fun vs G2 A2 x1 x2 x3 z => by
    rw [List.append_nil]
    exact ⟨a, hp, G2, x2, hd ▸ z, fun v G3 A3 s z3 => k v G3 A3 (x1.trans s.g) s.v (x3.step s) z3⟩
/-- a def that answers something flat -/
theorem efT_callR {ret : T → V} (a : T) (h : EfaT K P q tr σ G ds) (hd : ds = args a) (hp : pre a) : EfT K P q (tCall (spR K pre args fun x => .v (ret x)) [] E tr) σ G (.v (ret a)) := fun G1 A e1 e2 t0 Q k =>
  h G1 A e1 e2 t0 _ fun vs G2 A2 x1 x2 x3 z => by
    rw [List.append_nil]
    exact ⟨a, hp, (hd ▸ z).mono x2, fun v A3 e3 z3 => k v G2 A3 x1 (x2.trans e3) (x3.step (.on x2 e3)) z3⟩
theorem efT_call (a : T) (h : EfaT K P q tr σ G ds) (hd : ds = args a) (hp : pre a) : EfT K P q (tCall (spT K P q pre args ret) [] E tr) σ G (ret a) := fun G1 A e1 e2 t0 Q k =>
  h G1 A e1 e2 t0 _ fun vs G2 A2 x1 x2 x3 z => by
    rw [List.append_nil]
    exact ⟨a, G2, hp, x2, x3, hd ▸ z, fun v G3 A3 e3 e4 t3 z3 => k v G3 A3 (x1.trans e3) e4 t3 z3⟩
theorem efT_callW (a : T) (h : EfaT K P q tr σ G ds) (hd : ds.reverse = args a) (hp : pre a) : EfT K P q (tCallW (spT K P q pre args ret) tr) σ G (ret a) := fun G1 A e1 e2 t0 Q k =>
  h G1 A e1 e2 t0 _ fun vs G2 A2 x1 x2 x3 z => ⟨a, G2, hp, x2, x3, hd ▸ isAll_rev z, fun v G3 A3 e3 e4 t3 z3 => k v G3 A3 (x1.trans e3) e4 t3 z3⟩
theorem efT_andV (h1 : EfT K P q ta σ G (.b a)) (h2 : a = true → EfT K P q tb σ G (.b b)) : EfT K P q (tAndV ta tb) σ G (.b (a && b)) := fun G1 A e1 e2 t0 Q k =>
  h1 G1 A e1 e2 t0 _ fun v G2 A2 x1 x2 x3 z => ⟨a, z, by
    cases a with
    | true =>
      rw [if_pos rfl]
      exact h2 rfl G2 A2 (e1.trans x1) x2 x3 Q fun v G3 A3 y1 y2 y3 z3 => k v G3 A3 (x1.trans y1) y2 y3 z3
    | false =>
      rw [if_neg Bool.false_ne_true]
      exact k _ G2 A2 x1 x2 x3 rfl⟩
theorem etT_of (h : ∀ A, Ex G A → Et K t σ A b) : EtT P q t σ G b := fun G1 A e1 e2 t0 Q k => h A (e1.trans e2) A (Ex.refl A) _ fun A2 ea => k G1 A2 (Ex.refl _) (e2.trans ea) (t0.step (.on e2 ea))
theorem etT_b (h : EfT K P q te σ G (.b b)) : EtT P q (tB te) σ G b := fun G1 A e1 e2 t0 Q k => h G1 A e1 e2 t0 _ fun v G2 A2 x1 x2 x3 z => ⟨b, z, k G2 A2 x1 x2 x3⟩
theorem etT_t (h : EfT K P q te σ G (.b b)) : EtT P q (tTest te) σ G b := fun G1 A e1 e2 t0 Q k => h G1 A e1 e2 t0 _ fun v G2 A2 x1 x2 x3 z => ⟨b, z, k G2 A2 x1 x2 x3⟩
theorem etT_not (h : EtT P q t σ G b) : EtT P q (tNot t) σ G (!b) := fun G1 A e1 e2 t0 Q k => h G1 A e1 e2 t0 _ k
theorem s_whenT (h : EtT P q t σ G b) (hA : Ex G A) (t0 : Tb P q G A) (h1 : b = true → ∀ G1 A1, Ex G G1 → Ex G1 A1 → Tb P q G1 A1 → tu { D with nx := tz D } σ A1) (h2 : b = false → ∀ G1 A1, Ex G G1 → Ex G1 A1 → Tb P q G1 A1 → tz D σ A1) : tSeq (tIfS t tu tNext) tz D σ A :=
  h G A (Ex.refl G) hA t0 _ fun G1 A1 x1 x2 x3 => by
    cases b with
    | true => exact h1 rfl G1 A1 x1 x2 x3
    | false => exact h2 rfl G1 A1 x1 x2 x3
theorem s_whenT1 (h : EtT P q t σ G b) (hA : Ex G A) (t0 : Tb P q G A) (h1 : b = true → ∀ G1 A1, Ex G G1 → Ex G1 A1 → Tb P q G1 A1 → tu D σ A1) (h2 : b = false → ∀ G1 A1, Ex G G1 → Ex G1 A1 → Tb P q G1 A1 → D.nx σ A1) : tIfS t tu tNext D σ A :=
  h G A (Ex.refl G) hA t0 _ fun G1 A1 x1 x2 x3 => by
    cases b with
    | true => exact h1 rfl G1 A1 x1 x2 x3
    | false => exact h2 rfl G1 A1 x1 x2 x3
theorem s_setT {i : Nat} (h : EfT K P q te σ G d) (hA : Ex G A) (t0 : Tb P q G A) (k : ∀ v G' A', Ex G G' → Ex G' A' → Tb P q G' A' → Is K G' d v → tz D (σ.set i (some v)) A') : tSeq (tAsg te (gName i)) tz D σ A := h G A (Ex.refl G) hA t0 _ fun v G' A' x1 x2 x3 z => k v G' A' x1 x2 x3 z
theorem s_retT {d' : Dd} (h : EfT K P q te σ G d) (hA : Ex G A) (t0 : Tb P q G A) (hd : d = d') (k : ∀ v G' A', Ex G G' → Ex G' A' → Tb P q G' A' → Is K G' d' v → D.rt v A') : tRet te D σ A := h G A (Ex.refl G) hA t0 _ fun v G' A' x1 x2 x3 z => k v G' A' x1 x2 x3 (hd ▸ z)
theorem ifT_list (h : EfT K P q tl σ G (.L ds)) : ItfT K P q (iList K tl) σ G ds := fun G1 A e1 e2 t0 R r =>
  h G1 A e1 e2 t0 _ fun v G2 A2 x1 x2 x3 ⟨p, vs, ep, hp, hE⟩ => by
    subst ep
    refine ⟨p, rfl, ⟨vs, ex_l x2 hp⟩, r _ G2 A2 x1 x2 x3 fun i G' A' e3 e4 => ⟨fun d hd => ?_, fun hi => ⟨vs, ex_l (e3.trans e4) hp, by rw [← isE_len hE]; omega⟩⟩⟩
    obtain ⟨y, hy, z⟩ := isE_at hE hd
    refine ⟨⟨vs, y, ex_l (e3.trans e4) hp, hy⟩, fun v A'' hyl => ?_⟩
    obtain ⟨rfl, hall⟩ := hyl
    have ev := (hall vs (ex_l (e3.trans e4) hp)).symm.trans hy
    rw [Option.some.inj ev]
    exact ⟨G', .refl e4, z.mono e3⟩
/-- a comprehension over what a def of this kind answers -/
theorem efT_lc {α : Type} {its : List α} {inj : α → Dd} {vs : List Nat} (f : α → Bool) (gd : α → Dd) (h : ItfT K P q wi σ G (its.map inj)) (hz : its.length ≤ 50000)
    (hs : ∀ (i : Nat) x v G' A', Ex G G' → Ex G' A' → its[i]? = some x → Is K G' (inj x) v → ∃ σ2, (∀ Q : L2.St → Hp → Prop, Q σ2 A' → g v (wipe σ vs) A' Q) ∧ wipe σ2 vs = wipe σ vs ∧ Et K t σ2 A' (f x) ∧ (f x = true → Ef K te σ2 G' (gd x))) :
    EfT K P q (tLc wi g t te vs) σ G (.N ((its.filter f).map gd)) := fun G0 A0 e0 ea0 t0 Q k =>
  h G0 A0 e0 ea0 t0 _ fun J G1 A1 s1g s1v t1 hw => fun Dl hD => by
    have gD := ex_out s1v hD
    refine ⟨fun i m A' => m = its.length - i ∧ i ≤ its.length ∧ ∃ G', Step G1 A1 G' A' ∧ G' Dl = none ∧ ∃ us, A' Dl = some (.lst us) ∧ IsE K G' (((its.take i).filter f).map gd) us, ⟨_, rfl, Nat.zero_le _, G1, .on s1v (Ex.new hD), gD, [], upd_same, rfl⟩, ?_⟩
    rintro i m A' ⟨rfl, hi, G', st, hg, us, hu, hE⟩
    by_cases hlt : i < its.length
    · have hx : its[i]? = some its[i] := List.getElem?_eq_getElem hlt
      have hd' : (its.map inj)[i]? = some (inj its[i]) := by rw [List.getElem?_map, hx]; rfl
      obtain ⟨go, yl⟩ := (hw i G' A' st.g st.v).1 _ hd'
      refine .inr ⟨go, fun A3 => ∃ G3, Step G1 A1 G3 A3 ∧ G3 Dl = none ∧ ∃ us, A3 Dl = some (.lst us) ∧ IsE K G3 (((its.take (i + 1)).filter f).map gd) us, fun A3 p3 => ⟨its.length - (i + 1), by omega, rfl, hlt, p3⟩, fun v A'' y => ?_⟩
      obtain ⟨G2, s2, z⟩ := yl v A'' y
      have uN : A' Dl ≠ none := by rw [hu]; simp
      have g2 := s2.f Dl uN hg
      have u2 := s2.a Dl _ hu
      obtain ⟨σ2, hgt, hwp, htt, hte⟩ := hs i _ v G2 A'' ((e0.trans s1g).trans (st.g.trans s2.g)) s2.v hx z
      have hl : us.length ≤ i := by
        rw [← isE_len hE, List.length_map]
        refine Nat.le_trans (List.length_filter_le _ _) ?_
        rw [List.length_take]
        exact Nat.min_le_left _ _
      refine hgt _ ⟨hwp, htt A'' (Ex.refl _) _ fun A3 e3 => ?_⟩
      have hn : (its.take (i + 1)).filter f = (its.take i).filter f ++ if f its[i] = true then [its[i]] else [] := by
        rw [List.take_add_one, hx]
        simp only [Option.toList, List.filter_append]
        congr 1
        by_cases hf : f its[i] = true
        · simp [hf]
        · simp [hf]
      have s3 := (st.trans s2).trans (Step.on s2.v e3)
      have u3 := e3 Dl _ u2
      by_cases hf : f its[i] = true
      · rw [if_pos hf]
        refine hte hf G2 A3 (Ex.refl G2) s3.v _ fun w G4 A4 s4 zw => ⟨us, s4.a Dl _ u3, sz_lt (by omega), ?_⟩
        have g4 := s4.f Dl (by rw [u3]; simp) g2
        refine ⟨G4, (s3.trans s4).grow hD g4, g4, us ++ [w], upd_same, ?_⟩
        rw [hn, if_pos hf, List.map_append]
        exact isE_app (IsE.mono (s2.g.trans s4.g) hE) ⟨w, [], rfl, zw, rfl⟩
      · rw [if_neg hf]
        refine ⟨G2, s3, g2, us, u3, ?_⟩
        rw [hn, if_neg hf, List.append_nil]
        exact IsE.mono s2.g hE
    · have e : i = its.length := by omega
      subst e
      have y := st.seal hD hg hu
      refine .inl ⟨(hw _ G' A' st.g st.v).2 (by rw [List.length_map]), k _ (upd G' Dl (.lst us)) A' (s1g.trans y.g) y.v (t1.step y) ⟨Dl, us, rfl, upd_same, ?_⟩⟩
      rw [List.take_length] at hE
      exact IsE.mono (Ex.new hg) hE
end
section
variable {K : PySem.W.Frag} {P : Addr} {q : Str} {σ : L2.St} {G A : Hp} {tl : TE}
theorem isE_zip {β : Type} {dd : β → Dd} {H : Hp} : ∀ {ys : List β} {us : List V}, IsE K H (ys.map dd) us → ∀ z ∈ us.zip ys, Is K H (dd z.2) z.1
  | [], us, _, z, hz => by simp at hz
  | y :: r, us, h, z, hz => by
    obtain ⟨x, t, rfl, h1, h2⟩ := h
    rw [List.zip_cons_cons] at hz
    rcases List.mem_cons.mp hz with rfl | hz
    · exact h1
    · exact isE_zip h2 z hz
theorem isE_unzip {β : Type} {dd : β → Dd} {H : Hp} : ∀ {L : List (V × β)}, (∀ z ∈ L, Is K H (dd z.2) z.1) → IsE K H ((L.map (·.2)).map dd) (L.map (·.1))
  | [], _ => rfl
  | z :: r, h => ⟨z.1, r.map (·.1), rfl, h z List.mem_cons_self, isE_unzip fun y hy => h y (List.mem_cons_of_mem _ hy)⟩
theorem ordk_snd {β : Type} {kd : β → PyData} {L : List (V × β)} : (ordk false (fun z : V × β => kd z.2) L).map (·.2) = ordk false kd (L.map (·.2)) := List.map_mergeSort fun _ _ _ _ => rfl
theorem efT_sortL {β : Type} {ys : List β} {dd : β → Dd} {kd : β → PyData} {N : List Str} {mk : Addr → NF} {body : Expr} {tb : TE} (hl : Ef K tl σ G (.N (ys.map dd))) (ko : KeysOk kd ys)
    (hb : ∀ y ∈ ys, ∀ (v : V) (G2 H : Hp), Ex G G2 → Ex G2 H → Is K G2 (dd y) v → tb (startF N [v] []) H fun v' H2 => Ex H H2 ∧ DpX K H2 v' (kd y)) :
    EfT K P q (tCKw (rSortL K N mk body q tb) (tCons tl tNil) (tCons (tLam1 P q mk body) tNil)) σ G (.N ((ordk false kd ys).map dd)) := fun G1 A e1 e2 t0 Q k =>
  hl G1 A e1 e2 _ fun v G2 A2 s2 ⟨p, us, ev, hp, hE⟩ => by
    subst ev
    have t2 := t0.step s2
    have el : us.length = ys.length := by rw [← isE_len hE, List.length_map]
    have m1 : (us.zip ys).map (·.1) = us := List.map_fst_zip (by omega)
    have m2 : (us.zip ys).map (·.2) = ys := List.map_snd_zip (by omega)
    refine ⟨t2.2, fun f c' H1 kp tT hf h1 h2 => ?_⟩
    have eGH : Ex G2 H1 := fun b o e => kp b o (fun z => by rw [z, t2.1] at e; cases e) (s2.v b o e)
    refine ⟨p, f, c', V × β, us.zip ys, (·.1), fun z => kd z.2, rfl, rfl, ?_, ⟨?_, ?_, ?_⟩, h1, h2, ?_, ?_⟩
    · rw [m1]
      exact sq_of (eGH _ _ hp)
    · have e : (us.zip ys).map (fun z => kd z.2) = ys.map kd := (List.map_map (f := fun z : V × β => z.2) (g := kd)).symm.trans (congrArg (List.map kd) m2)
      rw [e]
      exact ko.1
    · have e : (us.zip ys).map (fun z => kd z.2) = ys.map kd := (List.map_map (f := fun z : V × β => z.2) (g := kd)).symm.trans (congrArg (List.map kd) m2)
      rw [e]
      rcases ko.2.1 with h | ⟨h, h'⟩
      · exact .inl h
      · exact .inr ⟨by rw [List.length_zip]; omega, fun z hz => h' z.2 (List.of_mem_zip hz).2⟩
    · exact fun z hz => ko.2.2 z.2 (List.of_mem_zip hz).2
    · exact fun z hz H' ex => hb z.2 (List.of_mem_zip hz).2 z.1 G2 H' (e1.trans s2.g) (eGH.trans ex) (isE_zip hE z hz)
    · intro H2 p' ex hn
      have gH2 : Ex G2 H2 := eGH.trans ex
      have hg : G2 p' = none := ex_out gH2 hn
      have tH2 : TabS H2 P q := tT.ext ex
      have nP : P ≠ p' := fun z => by
        obtain ⟨ps, e, _⟩ := tH2
        rw [z, hn] at e
        cases e
      refine k (.ref p') (upd G2 p' (.lst ((ordk false (fun z : V × β => kd z.2) (us.zip ys)).map (·.1)))) _ (s2.g.trans (Ex.new hg)) (fun b o e => ?_) ⟨by rw [upd_ne nP]; exact t2.1, tH2.ext (Ex.new hn)⟩ ⟨p', _, rfl, upd_same, ?_⟩
      · by_cases hb : b = p'
        · subst hb
          rw [upd_same] at e ⊢
          exact e
        · rw [upd_ne hb] at e ⊢
          exact gH2 b o e
      · have e := isE_unzip (K := K) (dd := dd) (H := upd G2 p' (.lst ((ordk false (fun z : V × β => kd z.2) (us.zip ys)).map (·.1)))) (L := ordk false (fun z : V × β => kd z.2) (us.zip ys)) fun z hz => (isE_zip hE z (List.mem_mergeSort.mp hz)).mono (Ex.new hg)
        rw [ordk_snd, m2] at e
        exact e
end
/-! ### a def's promise -/
/-- the code object of the def of this name -/
def CodeAt (K : PySem.W.Frag) (mg : Str → Option Value) (x : Str) (c : Addr) : Prop := ∀ (f : Addr) (o : Obj) (fd : FuncData), mg x = some (.ref f) → K.lookup f = some o → o.data = .func fd → fd.code = .ref c
section
variable {P : Program} {w : World} {K : PySem.W.Frag} {mg : Str → Option Value} {base : Heap} {x : Str} {st : Stmt} {N ps : List Str} {k : Nat} {T : Type} {pre : T → Prop} {args : T → List Dd} {ret : T → Dd} {Pt : Addr} {q : Str}
theorem Fun.okT {f : Addr} {fd : FuncData} (F : Fun K x x st f fd) (Sc : FnScope N ps (defScope st)) (hl : ∀ a, (args a).length = ps.length)
    (hbody : ∀ (cdv : Value) (Ar : Around) (outer : List Env) (s : Shared) (G A : Hp) (a : T) (vs : List V) (Q : VK) (E : XK), Room k (Ar.deeper (envOfC x (defScope st) s.heap.objs.size f cdv)) → pre a → Ex G A → Tb Pt q G A → IsAll K G (args a) vs →
      (∀ v G' A', Ex G G' → Ex G' A' → Tb Pt q G' A' → Is K G' (ret a) v → Q v A') →
      ∃ t, PSs (cxOf CX0 P w K mg base N x (defScope st) f cdv Ar outer s A E).nox (defBody st) t ∧ t { nx := fun _ A' => Q .non A', rt := Q } (start N vs) A) :
    FnOk P w K mg base CX0 (k + 1) f fd ps (spT K Pt q pre args ret) := by
  refine F.ok Sc (fun vs H Q E hsp => ?_) (fun cdv Ar outer s A vs Q E hr hsp => ?_)
  · obtain ⟨a, G, _, _, _, hv, _⟩ := hsp
    rw [← hv.len, hl]
  · obtain ⟨a, G, hp, hA, t0, hv, hk⟩ := hsp
    exact hbody cdv Ar outer s G A a vs Q E hr hp hA t0 hv hk
/-- the same; its code object known -/
theorem At.hasTC {c : Addr} (h : At K mg x st ps) (hc : CodeAt K mg x c) (Sc : FnScope N ps (defScope st)) (hl : ∀ a, (args a).length = ps.length)
    (hbody : ∀ (f : Addr) (Ar : Around) (outer : List Env) (s : Shared) (G A : Hp) (a : T) (vs : List V) (Q : VK) (E : XK), Room k (Ar.deeper (envOfC x (defScope st) s.heap.objs.size f (.ref c))) → pre a → Ex G A → Tb Pt q G A → IsAll K G (args a) vs →
      (∀ v G' A', Ex G G' → Ex G' A' → Tb Pt q G' A' → Is K G' (ret a) v → Q v A') →
      ∃ t, PSs (cxOf CX0 P w K mg base N x (defScope st) f (.ref c) Ar outer s A E).nox (defBody st) t ∧ t { nx := fun _ A' => Q .non A', rt := Q } (start N vs) A) :
    Has P w K mg base (k + 1) x ps (spT K Pt q pre args ret) := by
  obtain ⟨f, fd, hm, F, b0, b1, b2⟩ := h.ex
  have kp := F.kp
  obtain ⟨oc, od, kV, doc, pm, an, cdv, ct, osl, rfl, lk, hcd⟩ := F.ex
  have ec : cdv = .ref c := hc f _ _ hm lk rfl
  subst ec
  refine ⟨f, _, hm, kp, fn_of (CX := CX0) lk hcd Sc (fun vs H Q E hsp => ?_) (fun Ar outer s A vs Q E hr hsp => ?_), b0, b1, b2⟩
  · obtain ⟨a, G, _, _, _, hv, _⟩ := hsp
    rw [← hv.len, hl]
  · obtain ⟨a, G, hp, hA, t0, hv, hk⟩ := hsp
    obtain ⟨t, h1, h2⟩ := hbody f Ar outer s G A a vs Q E hr hp hA t0 hv hk
    exact ⟨t, h1.nox, h2⟩
end
end Mi

set_option maxHeartbeats 4000000
namespace Mi
open PySem PySem.Spec PyProof.Rows L2 Evl PySem.W LamX NdefX
/-! ### sorted by a key function, of a tuple too -/
theorem sorted_core {X : Cx} {b : Bool} {kw : List (Str × Value)} {pins : List (Addr × Obj)} {s : Shared} {σ : L2.St} {H : Hp} {D : Nat} {hc : Heap} {its : List Value} {n0 : Nat} {α : Type} {ys : List α} {iv : α → V} {kd : α → PyData} {fv : Value} {Q : VK} {E' : Value → Shared → Prop}
    (hu : X.A.units + 67 < cLine) (I : Inv X pins σ H s) (hev : EachIs (fun u z => RelV (iv z) u) its ys) (hZ : its.length ≤ sizeLine) (ko : KeysOk kd ys)
    (call : ∀ (t : Shared) (pins' : List (Addr × Obj)) (H' : Hp) (z : α) (u : Value), z ∈ ys → Ex H H' → Inv X pins' σ H' t → RelV (iv z) u → wpAny (model X.prog X.w) X.A.in1.in1 (call fv [u]) (EP X pins' σ fun v H2 => Ex H' H2 ∧ DpX X.K H2 v (kd z)) (fun _ _ => False) t)
    (ht : ∀ x, Builtin.«list.sort» ⟨[.ref x], kw⟩ = ksk_tree x fv b)
    (q : ∀ H2 p, Ex H H2 → H2 p = none → Q (.ref p) (upd H2 p (.lst ((ordk b kd ys).map iv))))
    (hD : hc.get? D = some (seqObj "list" its.toArray n0)) (dge : s.heap.objs.size ≤ D) (oldC : ∀ c o, s.heap.get? c = some o → c ≠ D ∧ hc.get? c = some o) :
    wpAny (model X.prog X.w) X.A.in1.in1 (Builtin.«list.sort» ⟨[.ref D], kw⟩) (fun f s' => f = .done (.ret .none) ∧ EP X pins σ Q (.ref D) s') E' { s with heap := hc } := by
  have hle : its.length = ys.length := hev.length
  have un : X.A.in1.in1.units + 65 < cLine := by
    show X.A.units + 1 + 1 + 65 < cLine
    omega
  rw [ht]
  have hDs : D < (hc).objs.size := Heap.lt_size hD
  obtain ⟨e1, hD1⟩ : ∃ e1, ((hc).update D (Obj.mapSeq fun _ => (#[] : Array Value))).get? D = some (seqObj "list" #[] e1) := ⟨_, get?_update_seq hD fun _ => #[]⟩
  unfold ksk_tree
  refine wpAny_bind (listItems_at (s := { s with heap := hc }) hD rfl ?_)
  refine wpAny_bind (listUpdate_at (s := { s with heap := hc }) hD rfl ?_ (by rw [List.size_toArray]; exact hZ) (Nat.zero_le _))
  refine wpAny_bind (seqEpoch_at (s := { s with heap := (hc).update D (Obj.mapSeq fun _ => (#[] : Array Value)) }) hD1 rfl ?_)
  refine wpAny_bind (wpAny_newTuple ?_ (show its.length ≤ _ from hZ))
  refine wpAny_bind (wpAny_newList ?_ (Nat.zero_le _))
  refine wpAny_holding ?_
  have szK : (((hc).update D (Obj.mapSeq fun _ => (#[] : Array Value))).push (seqObj "tuple" its.toArray 0)).objs.size = (hc).objs.size + 1 := by rw [size_push', Heap.size_update]
  have hK : ((((hc).update D (Obj.mapSeq fun _ => (#[] : Array Value))).push (seqObj "tuple" its.toArray 0)).push (seqObj "list" #[] 0)).get? (((hc).update D (Obj.mapSeq fun _ => (#[] : Array Value))).push (seqObj "tuple" its.toArray 0)).objs.size = some (seqObj "list" #[] 0) := Heap.get?_push_size _ rfl
  have hD2 : ((((hc).update D (Obj.mapSeq fun _ => (#[] : Array Value))).push (seqObj "tuple" its.toArray 0)).push (seqObj "list" #[] 0)).get? D = some (seqObj "list" #[] e1) := Heap.get?_push_of_some _ (Heap.get?_push_of_some _ hD1)
  have old2 : ∀ c o, s.heap.get? c = some o → ((((hc).update D (Obj.mapSeq fun _ => (#[] : Array Value))).push (seqObj "tuple" its.toArray 0)).push (seqObj "list" #[] 0)).get? c = some o := fun c o e => by
    obtain ⟨c1, c2⟩ := oldC c o e
    exact Heap.get?_push_of_some _ (Heap.get?_push_of_some _ ((Heap.get?_update_ne _ _ _ _ c1).trans c2))
  have hKge : s.heap.objs.size ≤ (((hc).update D (Obj.mapSeq fun _ => (#[] : Array Value))).push (seqObj "tuple" its.toArray 0)).objs.size := by rw [szK]; omega
  have hDK : D ≠ (((hc).update D (Obj.mapSeq fun _ => (#[] : Array Value))).push (seqObj "tuple" its.toArray 0)).objs.size := by rw [szK]; omega
  show wpAny _ _ (ksk_rest D fv b its.toArray e1 (.ref (((hc).update D (Obj.mapSeq fun _ => (#[] : Array Value))).push (seqObj "tuple" its.toArray 0)).objs.size)) _ _ { s with heap := ((((hc).update D (Obj.mapSeq fun _ => (#[] : Array Value))).push (seqObj "tuple" its.toArray 0)).push (seqObj "list" #[] 0)) }
  revert hK hD2 old2 hKge hDK
  generalize (((hc).update D (Obj.mapSeq fun _ => (#[] : Array Value))).push (seqObj "tuple" its.toArray 0)).objs.size = kS
  generalize ((((hc).update D (Obj.mapSeq fun _ => (#[] : Array Value))).push (seqObj "tuple" its.toArray 0)).push (seqObj "list" #[] 0)) = hh
  intro hK hD2 old2 hKge hDK
  have I2 : Inv X pins σ H { s with heap := hh } := I.kept (t' := s.toks) old2
  have fD : FpOk X pins H D := I.fpOk dge (I.hok.fresh dge)
  have fK : FpOk X pins H kS := I.fpOk hKge (I.hok.fresh hKge)
  have repin : ∀ {H' : Hp} {t : Shared} {kA : Array Value} {e : Nat}, Inv X pins σ H' t → t.heap.get? D = some (seqObj "list" #[] e1) → H' D = none → t.heap.get? kS = some (seqObj "list" kA e) → H' kS = none → Inv X (pins ++ [(D, seqObj "list" #[] e1), (kS, seqObj "list" kA e)]) σ H' t := by
    intro H' t kA e J d1 d2 k1 k2
    refine J.pins_of fun p hp => ?_
    rcases List.mem_append.mp hp with h | h
    · exact J.pin p (List.mem_append_right _ h)
    · rcases List.mem_cons.mp h with rfl | h
      · exact ⟨d1, d2, fD.2.1, fD.2.2.1, fun v => by simp [seqObj]⟩
      · rw [List.mem_singleton.mp h]
        exact ⟨k1, k2, fK.2.1, fK.2.2.1, fun v => by simp [seqObj]⟩
  unfold ksk_rest
  refine wpAny_bind (wpAny_rule ?_)
  first
    | rw [List.forIn_toArray]
    | (rw [← Array.forIn_toList]; simp only [List.toList_toArray])
    | rw [← Array.forIn_toList]
  refine wpAny_bind (ksk_fold (fun i t => ∃ H' kA e, Ex H H' ∧ Inv X (pins ++ [(D, seqObj "list" #[] e1), (kS, seqObj "list" kA e)]) σ H' t ∧ EachIs (fun u z => ∃ v, RelV v u ∧ DpX X.K H' v (kd z)) kA.toList (ys.take i)) its 0 { s with heap := hh } ⟨H, #[], 0, Ex.refl H, repin I2 hD2 fD.1 hK fK.1, by rw [List.take_zero]; exact .nil⟩ ?turn ?over)
  case turn =>
    rintro j x t hx ⟨H', kA, e, hex, J, hk⟩
    simp only [Nat.zero_add] at hk ⊢
    obtain ⟨z, hz1, rx⟩ := eachR_at hev hx
    have hj : j < its.length := (List.getElem?_eq_some_iff.mp hx).1
    have hkz : kA.size ≤ its.length := by
      have h1 := hk.length
      rw [Array.length_toList, List.length_take] at h1
      omega
    refine wpAny_bind (wpAny_attempt (wpAny_mono (call t _ H' z x (List.mem_of_getElem? hz1) hex J rx) (fun u t2 hu => ?_) fun _ _ hF => False.elim hF))
    obtain ⟨v, H2, J2, ru, hex2, hdp⟩ := hu
    have pD := J2.pin (D, seqObj "list" #[] e1) (List.mem_append_right _ (List.mem_append_right _ (.head _)))
    have pK := J2.pin (kS, seqObj "list" kA e) (List.mem_append_right _ (List.mem_append_right _ (.tail _ (.head _))))
    try dsimp only
    obtain ⟨c2, hc2⟩ : ∃ c2, (t2.heap.update kS (Obj.mapSeq (·.push u))).get? kS = some (seqObj "list" (kA.push u) c2) := ⟨_, get?_update_seq pK.1 (·.push _)⟩
    have keepK : ∀ b o, b ∉ [kS] → t2.heap.get? b = some o → (t2.heap.update kS (Obj.mapSeq (·.push u))).get? b = some o := fun b o hb ho => (Heap.get?_update_ne _ _ _ _ (fun z => hb (by rw [z]; exact .head _))).trans ho
    have hsz2 : (kA.push u).size ≤ sizeLine + 1 := by
      rw [Array.size_push]
      omega
    refine wpAny_bind (listUpdate_at pK.1 rfl ?_ (by omega) hsz2)
    refine wpAny_pure ⟨rfl, H2, kA.push u, c2, hex.trans hex2, ?_, ?_⟩
    · refine repin (Inv.turnedL (t' := t2.toks) J2.unpinned keepK (fun b hb => ?_)) ?_ pD.2.1 hc2 pK.2.1
      · rw [List.mem_singleton.mp hb]
        exact ⟨pK.2.1, fK.2⟩
      · exact keepK D _ (fun h => hDK (List.mem_singleton.mp h)) pD.1
    · have ek : ys.take (j + 1) = ys.take j ++ [z] := by rw [List.take_add_one, hz1]; rfl
      rw [ek, Array.toList_push]
      exact eachR_more ⟨v, ru, hdp⟩ (hk.mono fun u z ⟨v, r, d⟩ => ⟨v, r, d.mono hex2⟩)
  case over =>
    rintro t ⟨H', kA, e, hex, J, hk⟩
    have e3 : ys.take (0 + its.length) = ys := List.take_of_length_le (by omega)
    rw [e3] at hk
    have hsz : kA.size = its.length := by
      have h1 := hk.length
      rw [Array.length_toList] at h1
      omega
    have pD := J.pin (D, seqObj "list" #[] e1) (List.mem_append_right _ (List.mem_append_right _ (.head _)))
    have pK := J.pin (kS, seqObj "list" kA e) (List.mem_append_right _ (List.mem_append_right _ (.tail _ (.head _))))
    try dsimp only
    refine wpAny_bind (listItems_at pK.1 rfl ?_)
    have rd : EachIs (fun v d => ∃ as, Reads t.heap v d as) kA.toList (ys.map kd) := by
      have h1 : EachIs (fun v z => ∃ as, Reads t.heap v (kd z) as) kA.toList ys := hk.mono fun u z ⟨v, r, d⟩ => Dp.reads J (kd z) v u (d H' (Ex.refl _)) r
      exact each_map (R := fun v d => ∃ as, Reads t.heap v d as) kd h1
    have kb : KeepsBut D (less t.heap kS) t.heap := fun c o hc ho => by
      have hck : c ≠ kS := fun z => by rw [z, less_at pK.1] at ho; cases ho
      rw [less_ne hck] at ho
      exact ho
    refine keyH_end (κ := dataKind t.heap (ys.map kd)) (h₁ := less t.heap kS) kb (less_at pK.1) pK.1 pD.1 (Ne.symm hDK) (ko.sorts rd un) hsz hZ fun h4 tk c k4 n4 => ⟨rfl, ?_⟩
    have out1 := keyedOut_each (rev := b) kd ⟨t.heap, kA.toList, ko.1, rfl, rd⟩ hev
    have keep4 : ∀ c o, c ∉ [kS, D] → t.heap.get? c = some o → h4.get? c = some o := fun c o hc ho => by
      refine k4 c o (fun z => hc (by rw [z]; simp)) ?_
      rw [less_ne (fun z => hc (by rw [z]; simp))]
      exact ho
    have hlen4 : ((ordk b kd ys).map iv).length ≤ sizeLine := by
      unfold ordk
      rw [List.length_map, List.length_mergeSort]
      omega
    have J4 : Inv X pins σ (upd H' D (.lst ((ordk b kd ys).map iv))) { t with heap := h4, toks := tk } := by
      refine inv_track J.unpinned keep4 (fun c hc => ?_) (by simp) ⟨hlen4, _, c, eachR_vals out1, n4⟩
      rcases List.mem_cons.mp hc with rfl | hc
      · exact ⟨pK.2.1, fK.2⟩
      · rw [List.mem_singleton.mp hc]
        exact ⟨pD.2.1, fD.2⟩
    exact ⟨.ref D, _, J4, rfl, q H' D hex pD.2.1⟩
theorem sorted_anyT {X : Cx} {b : Bool} {kw : List (Str × Value)} {pins : List (Addr × Obj)} {s : Shared} {σ : L2.St} {H : Hp} {a : Addr} {α : Type} {ys : List α} {iv : α → V} {kd : α → PyData} {fv : Value} {Q : VK}
    (hu : X.A.units + 67 < cLine) (I : Inv X pins σ H s) (hs : SqT X.K H a (ys.map iv)) (ko : KeysOk kd ys)
    (call : ∀ (t : Shared) (pins' : List (Addr × Obj)) (H' : Hp) (z : α) (u : Value), z ∈ ys → Ex H H' → Inv X pins' σ H' t → RelV (iv z) u → wpAny (model X.prog X.w) X.A.in1.in1 (call fv [u]) (EP X pins' σ fun v H2 => Ex H' H2 ∧ DpX X.K H2 v (kd z)) (fun _ _ => False) t)
    (ha1 : argsOk "sorted" ⟨[.ref a], kw⟩) (ha2 : ∀ x, argsOk "list.sort" ⟨[.ref x], kw⟩) (ht : ∀ x, Builtin.«list.sort» ⟨[.ref x], kw⟩ = ksk_tree x fv b)
    (q : ∀ H2 p, Ex H H2 → H2 p = none → Q (.ref p) (upd H2 p (.lst ((ordk b kd ys).map iv)))) :
    wpAny (model X.prog X.w) X.A (PySem.call (.builtin "sorted") [.ref a] kw) (EP X pins σ Q) X.xe s := by
  obtain ⟨its, rv, ⟨o, ho, hcl, n, hd⟩, hz⟩ := I.tuple hs
  have hev := eachR_of rv
  have hZ : its.length ≤ sizeLine := by rw [← rv.length]; exact hz
  refine call_function_entry_kw kind_sorted plain_sorted entry_sorted ha1 ?_
  unfold Builtin.«sorted»
  refine wpAny_bind (m := checkCount "sorted" 1 1 _) (wpAny_pure (wpAny_bind (wpAny_collect_seq (n := n) a (.inr rfl) ho hcl hd (fun h1 k1 => ?_) (by rw [List.size_toArray]; exact hZ))))
  have I1 : Inv X pins σ H { s with heap := h1 } := I.kept (t' := s.toks) k1
  rw [List.toList_toArray]
  refine wpAny_bind (wpAny_newList ?_ hZ)
  show wpAny _ _ _ _ _ { s with heap := h1.push (seqObj "list" its.toArray 0) }
  have hD : (h1.push (seqObj "list" its.toArray 0)).get? h1.objs.size = some (seqObj "list" its.toArray 0) := Heap.get?_push_size _ rfl
  have body := sorted_core (E' := X.xe) (hc := h1.push (seqObj "list" its.toArray 0)) (D := h1.objs.size) (n0 := 0) hu I1 hev hZ ko call ht q hD (Nat.le_refl _) (fun c o e => ⟨Nat.ne_of_lt (Heap.lt_size e), Heap.get?_push_of_some _ e⟩)
  refine wpAny_bind (wpAny_holding (wpAny_call_entry_kw slot_list_sort ⟨_, hD, rfl⟩ entry_list_sort (wpAny_mono body (fun f s' hf => ?_) fun _ _ e => e) (ha2 _)))
  obtain ⟨rfl, hq⟩ := hf
  exact ⟨_, rfl, wpAny_pure ⟨_, rfl, hq⟩⟩
end Mi

set_option maxHeartbeats 4000000
namespace Mi
open PySem PySem.Spec PyProof.Rows L2 Evl PySem.W LamX NdefX
/-! ### sorted(e, key=lambda x: ..), with names captured -/
def tCKwC (r : L2.St → List V → List V → Hp → VK → Prop) (t tk : TA) : TE := fun σ H Q => t σ H fun vs H1 => tk σ H1 fun zs H2 => r σ vs zs H2 Q
def rSortLC (K : PySem.W.Frag) (N : List Str) (mk : Addr → NF) (body : Expr) (q : Str) (tb : TE) (js : List Nat) : L2.St → List V → List V → Hp → VK → Prop := fun σ vs zs H Q => ∃ (a f c' : Addr) (α : Type) (ys : List α) (iv : α → V) (kd : α → PyData), vs = [.ref a] ∧ zs = [.ref f] ∧ (SqL K H a (ys.map iv) ∨ SqT K H a (ys.map iv)) ∧ KeysOk kd ys ∧
  H f = some (FnL f (mk c') body) ∧ H c' = some (CodeO c' q) ∧ (∀ z ∈ ys, ∀ H', Ex H H' → tb (startF N [iv z] (js.map (slotAt σ))) H' fun v H2 => Ex H' H2 ∧ DpX K H2 v (kd z)) ∧ ∀ H2 p, Ex H H2 → H2 p = none → Q (.ref p) (upd H2 p (.lst ((ordk false kd ys).map iv)))
section
variable {X : Cx} {k : Nat} {c P : Addr} {pn : Str} {params : Arguments} {body : Expr} {scope : Scope} {N fr : List Str} {js : List Nat} {tb : TE} {lpos : Pos}
theorem cr_sortLC (hr : Room (k + 3) X.A) (S : NScope N [pn] fr scope) (cp : X.Ok → Caps X (cloFrom X.env.cells scope.names []) fr js)
    (hb : ∀ (c' : Addr) (pm ctv : Value) (us : List Value), us.length = 1 → bindArgs (PySem.W.kla_fn "<lambda>" (X.env.qual ++ "<lambda>") params body scope (cloFrom X.env.cells scope.names []) pm (.ref c') ctv) ⟨us, []⟩ = pure ([pn].zip us))
    (hbody : ∀ (c' f : Addr) (A : Around) (outer : List Env) (s : Shared) (H : Hp), Room k (A.deeper (envF (lamF X params scope c') f s.heap.objs.size)) → PE (ncx CX0 X.prog X.w X.K X.mg X.base N (lamF X params scope c') f A outer s H E0) body tb)
    {pins : List (Addr × Obj)} {s : Shared} {σ : L2.St} {H : Hp} {vs zs : List V} {us ws : List Value} {Q : VK} (I : Inv X pins σ H s) (r : Vals vs us) (rz : Vals zs ws) (h : rSortLC X.K N (lamF X params scope) body (X.env.qual ++ "<lambda>") tb js σ vs zs H Q) :
    wpAny (model X.prog X.w) X.A (call (.builtin "sorted") us ([Str.ofString "key"].zip ws)) (EP X pins σ Q) X.xe s := by
  obtain ⟨a, f, c', α, ys, iv, kd, rfl, rfl, hs, ko, hf, hc, hk, q⟩ := h
  obtain rfl := Vals.ref1 r
  obtain ⟨w1, rfl, e1⟩ := vals1 rz
  obtain rfl : w1 = Value.ref f := e1
  have un := hr.un
  have go : ∀ (t : Shared) (pins' : List (Addr × Obj)) (H' : Hp) (z : α) (u : Value), z ∈ ys → Ex H H' → Inv X pins' σ H' t → RelV (iv z) u → wpAny (model X.prog X.w) X.A.in1.in1 (call (.ref f) [u]) (EP X pins' σ fun v H2 => Ex H' H2 ∧ DpX X.K H2 v (kd z)) (fun _ _ => False) t := fun t pins' H' z u hz hex J rx => by
   have hr2 : Room (k + 1) X.A.in1.in1 := (Room.in1 (show Room (k + 1 + 1 + 1) X.A from hr)).in1
   have C : CellsAt (lamF X params scope c').cl fr (js.map (slotAt σ)) t.heap H' := cells_of J (cp J.ok)
   refine wpAny_call (codeAny_mono (lam_call (F := lamF X params scope c') (N := N) (ps := [pn]) (vs := [iv z]) (ws := js.map (slotAt σ)) S (hb c') hr2 J.env0.in1.in1 (hex f _ hf) (hex c' _ hc) C (.cons rx .nil) rfl (fun hr3 => hbody c' f _ _ _ _ hr3) (hk z hz H' hex)) fun r t' hq => ?_)
   cases r with
   | error e => exact hq.elim
   | ok fl =>
     cases fl with
     | ret u => exact J.after hq
     | next => exact hq.elim
     | brk => exact hq.elim
     | cont => exact hq.elim
  rcases hs with hs | hs
  · exact sorted_any (b := false) (by omega) I hs ko go (ksk_s1 _ _) (fun _ => ksk_l1 _ _) (fun x => ksk_t1 f x) q
  · exact sorted_anyT (b := false) (by omega) I hs ko go (ksk_s1 _ _) (fun _ => ksk_l1 _ _) (fun x => ksk_t1 f x) q
theorem pe_sortLC {p pos k1 : Pos} {e : Expr} {ta : TA} (hr : Room (k + 3) X.A) (hg : Gl X "sorted") (hm : X.mg "sorted" = none) (ha : PA X [e] ta) (TB : TabB X.base X.mg c P) (hcode : X.env.code = .ref c) (S : NScope N [pn] fr scope)
    (hfree : ∀ y ∈ scope.names, y.2 = .free → X.env.scope.names.lookup y.1 = some .cell ∨ X.env.scope.names.lookup y.1 = some .free) (hfr : ∀ y ∈ fr, (y, NameKind.free) ∈ scope.names) (hjs : js.map (fun j => X.N[j]?) = fr.map some)
    (hb : ∀ (c' : Addr) (pm ctv : Value) (us : List Value), us.length = 1 → bindArgs (PySem.W.kla_fn "<lambda>" (X.env.qual ++ "<lambda>") params body scope (cloFrom X.env.cells scope.names []) pm (.ref c') ctv) ⟨us, []⟩ = pure ([pn].zip us))
    (hbody : ∀ (c' f : Addr) (A : Around) (outer : List Env) (s : Shared) (H : Hp), Room k (A.deeper (envF (lamF X params scope c') f s.heap.objs.size)) → PE (ncx CX0 X.prog X.w X.K X.mg X.base N (lamF X params scope c') f A outer s H E0) body tb)
    (hdef : defaultsOf params X.env = ([], []) := by rfl)
    (hs : backTo pos (starEach [e] X.env) = (false, eval e X.env) :: backTo pos (starEach [] X.env) := by rfl) (hpl : (backTo pos (starEach [e] X.env)).any (·.1) = false := by rfl)
    (hall : (backToKw pos (keywordEach [⟨some "key", .Lambda params body scope lpos, k1⟩] X.env)).all (·.1.isSome) = true := by rfl) (hnone : (backToKw pos (keywordEach [⟨some "key", .Lambda params body scope lpos, k1⟩] X.env)).any (·.1.isNone) = false := by rfl) (hks : (backToKw pos (keywordEach [⟨some "key", .Lambda params body scope lpos, k1⟩] X.env)).filterMap (·.1) = [Str.ofString "key"] := by rfl) :
    PE X (.Call (.Name "sorted" p) [e] [⟨some "key", .Lambda params body scope lpos, k1⟩] pos) (tCKwC (rSortLC X.K N (lamF X params scope) body (X.env.qual ++ "<lambda>") tb js) ta (tCons (tLam1 P (X.env.qual ++ "<lambda>") (lamF X params scope) body) tNil)) := by
  refine ⟨fun pins s σ H Q I h => ?_⟩
  have ok := I.ok
  have hk : PK X [⟨some "key", .Lambda params body scope lpos, k1⟩] (tCons (tLam1 P (X.env.qual ++ "<lambda>") (lamF X params scope) body) tNil) := pk_cons (pe_lam TB hcode (fun y hy e => (hfree y hy e).elim (fun z => ok.has _ (.inl z)) fun z => ok.has _ (.inr z)) hdef) pk_nil
  refine wpAny_Call_Name_kw (ld_blt I hg hm (by rfl) ?_ (by decide) (by decide))
  refine PyProof.Rows.callWith_kw (thn (ha.run pos pins s σ H _ I h) fun us s1 ⟨vs, H1, I1, r1, q1⟩ => thn (hk.run pos pins s1 σ H1 _ I1 q1) fun ws s2 ⟨zs, H2, I2, r2, q2⟩ => ?_) hs hpl hall hnone
  rw [hks]
  exact cr_sortLC hr S (fun ok => Caps.made ok hfree hfr hjs) hb hbody I2 r1 r2 q2
end
section
variable {K : PySem.W.Frag} {P : Addr} {q : Str} {σ : L2.St} {G A : Hp} {tl : TE}
theorem efT_sortLC {β : Type} {ys : List β} {dd : β → Dd} {kd : β → PyData} {N : List Str} {js : List Nat} {mk : Addr → NF} {body : Expr} {tb : TE} {d0 : Dd} (hl : Ef K tl σ G d0) (hsq : ∀ Hx v, Is K Hx d0 v → ∃ p us, v = .ref p ∧ (SqL K Hx p us ∨ SqT K Hx p us) ∧ IsE K Hx (ys.map dd) us) (ko : KeysOk kd ys)
    (hb : ∀ y ∈ ys, ∀ (v : V) (G2 H : Hp), Ex G G2 → Ex G2 H → Is K G2 (dd y) v → tb (startF N [v] (js.map (slotAt σ))) H fun v' H2 => Ex H H2 ∧ DpX K H2 v' (kd y)) :
    EfT K P q (tCKwC (rSortLC K N mk body q tb js) (tCons tl tNil) (tCons (tLam1 P q mk body) tNil)) σ G (.N ((ordk false kd ys).map dd)) := fun G1 A e1 e2 t0 Q k =>
  hl G1 A e1 e2 _ fun v G2 A2 s2 hz0 => by
    obtain ⟨p, us, ev, hp, hE⟩ := hsq G2 v hz0
    subst ev
    have t2 := t0.step s2
    have el : us.length = ys.length := by rw [← isE_len hE, List.length_map]
    have m1 : (us.zip ys).map (·.1) = us := List.map_fst_zip (by omega)
    have m2 : (us.zip ys).map (·.2) = ys := List.map_snd_zip (by omega)
    refine ⟨t2.2, fun f c' H1 kp tT hf h1 h2 => ?_⟩
    have eGH : Ex G2 H1 := fun b o e => kp b o (fun z => by rw [z, t2.1] at e; cases e) (s2.v b o e)
    refine ⟨p, f, c', V × β, us.zip ys, (·.1), fun z => kd z.2, rfl, rfl, ?_, ⟨?_, ?_, ?_⟩, h1, h2, ?_, ?_⟩
    · rw [m1]
      exact hp.elim (fun z => .inl (ex_l eGH z)) fun z => .inr (ex_t eGH z)
    · have e : (us.zip ys).map (fun z => kd z.2) = ys.map kd := (List.map_map (f := fun z : V × β => z.2) (g := kd)).symm.trans (congrArg (List.map kd) m2)
      rw [e]
      exact ko.1
    · have e : (us.zip ys).map (fun z => kd z.2) = ys.map kd := (List.map_map (f := fun z : V × β => z.2) (g := kd)).symm.trans (congrArg (List.map kd) m2)
      rw [e]
      rcases ko.2.1 with h | ⟨h, h'⟩
      · exact .inl h
      · exact .inr ⟨by rw [List.length_zip]; omega, fun z hz => h' z.2 (List.of_mem_zip hz).2⟩
    · exact fun z hz => ko.2.2 z.2 (List.of_mem_zip hz).2
    · exact fun z hz H' ex => hb z.2 (List.of_mem_zip hz).2 z.1 G2 H' (e1.trans s2.g) (eGH.trans ex) (isE_zip hE z hz)
    · intro H2 p' ex hn
      have gH2 : Ex G2 H2 := eGH.trans ex
      have hg : G2 p' = none := ex_out gH2 hn
      have tH2 : TabS H2 P q := tT.ext ex
      have nP : P ≠ p' := fun z => by
        obtain ⟨ps, e, _⟩ := tH2
        rw [z, hn] at e
        cases e
      refine k (.ref p') (upd G2 p' (.lst ((ordk false (fun z : V × β => kd z.2) (us.zip ys)).map (·.1)))) _ (s2.g.trans (Ex.new hg)) (fun b o e => ?_) ⟨by rw [upd_ne nP]; exact t2.1, tH2.ext (Ex.new hn)⟩ ⟨p', _, rfl, upd_same, ?_⟩
      · by_cases hb : b = p'
        · subst hb
          rw [upd_same] at e ⊢
          exact e
        · rw [upd_ne hb] at e ⊢
          exact gH2 b o e
      · have e := isE_unzip (K := K) (dd := dd) (H := upd G2 p' (.lst ((ordk false (fun z : V × β => kd z.2) (us.zip ys)).map (·.1)))) (L := ordk false (fun z : V × β => kd z.2) (us.zip ys)) fun z hz => (isE_zip hE z (List.mem_mergeSort.mp hz)).mono (Ex.new hg)
        rw [ordk_snd, m2] at e
        exact e
end
end Mi

set_option maxHeartbeats 4000000
namespace Mi
open PySem PySem.Spec PyProof.Rows L2 Evl
/-! ### dict(zip(names, values)) -/
section
variable {prog : Program} {w : World} {A : Around} {E : Value → Shared → Prop} {s : Shared} {z ti own i1 i2 : Addr} {p1 p2 : List Addr} {n1 n2 i : Nat} {R1 R2 : Nat → Value → Prop} {T1 T2 : Nat → Heap → Prop} {a1 a2 q : Value} {f : Bool}
theorem zq_pynext {Q : Option Value → Shared → Prop} (S : ZipSep2 z ti own i1 i2 p1 p2) (D1 : Draws prog w A.in1 i1 p1 n1 R1 T1) (D2 : Draws prog w A.in1 i2 p2 n2 R2 T2)
    (hz : ZQ s.heap z ti own q f) (hq : OutQ q) (hI : IsTupOf2 s.heap ti (.ref i1) (.ref i2)) (hO : IsTupOf2 s.heap own a1 a2) (t1 : T1 i s.heap) (t2 : T2 i s.heap) (l1 : i < n1) (l2 : i < n2)
    (k : ∀ x y g tk q2 f2, R1 i x → R2 i y → ZQ g z ti own q2 f2 → OutQ q2 → (∃ b1 b2, IsTupOf2 g own b1 b2) → T1 (i + 1) g → T2 (i + 1) g → IsTupOf2 g s.heap.objs.size x y → g.objs.size = s.heap.objs.size + 1 →
      (∀ c o, c ≠ z → c ≠ own → c ≠ i1 → c ≠ i2 → s.heap.get? c = some o → g.get? c = some o) → Q (some (.ref s.heap.objs.size)) { s with heap := g, toks := tk }) :
    wpAny (model prog w) A (pyNext (.ref z)) Q E s := by
  have ty : s.TypeIs (.ref z) "zip" := ⟨_, hz, rfl⟩
  unfold pyNext
  exact wpAny_bind (wpAny_attempt (wpAny_callSpecial?_slot (name := Str.ofString "__next__") ty PySem.F.slot_zip_next
    (wpAny_call_entry PySem.F.slot_zip_next ty PySem.F.entry_zip_next
      (zq_item S D1 D2 hz hq hI hO t1 t2 l1 l2 fun x y g tk q2 f2 u1 u2 u3 u4 u5 u6 u7 u8 u9 u10 => wpAny_pure (k x y g tk q2 f2 u1 u2 u3 u4 u5 u6 u7 u8 u9 u10)) (PySem.F.args_zip_next_1 _))))
theorem zq_pystop {Q : Option Value → Shared → Prop} (S : ZipSep2 z ti own i1 i2 p1 p2) (D1 : Draws prog w A.in1 i1 p1 n1 R1 T1) (D2 : Draws prog w A.in1 i2 p2 n2 R2 T2)
    (hz : ZQ s.heap z ti own q f) (hq : OutQ q) (hI : IsTupOf2 s.heap ti (.ref i1) (.ref i2)) (hO : IsTupOf2 s.heap own a1 a2) (t1 : T1 i s.heap) (t2 : T2 i s.heap) (l1 : i ≤ n1) (l2 : i ≤ n2) (hl : i = n1 ∨ i = n2)
    (k : ∀ g tk, (∀ c o, c ≠ z → c ≠ own → c ≠ i1 → c ≠ i2 → s.heap.get? c = some o → g.get? c = some o) → Q none { s with heap := g, toks := tk }) :
    wpAny (model prog w) A (pyNext (.ref z)) Q E s := by
  have ty : s.TypeIs (.ref z) "zip" := ⟨_, hz, rfl⟩
  unfold pyNext
  refine wpAny_bind (wpAny_attempt (wpAny_callSpecial?_slot (name := Str.ofString "__next__") ty PySem.F.slot_zip_next
    (wpAny_call_entry PySem.F.slot_zip_next ty PySem.F.entry_zip_next (zq_end S D1 D2 hz hq hI hO t1 t2 l1 l2 hl fun g tk e kp he => ?_) (PySem.F.args_zip_next_1 _))))
  obtain ⟨o, ho, hc⟩ := he
  refine wpAny_bind (wpAny_isInstance (T := "StopIteration") (b := true) ⟨o, ho, hc⟩ isSubtype_stop ?_)
  exact wpAny_pure (k _ _ kp)
end
theorem pairArg_zip {prog : Program} {w : World} {z ti own i1 i2 : Addr} {p1 p2 : List Addr} {n1 n2 : Nat} {R1 R2 : Nat → Value → Prop} {T1 T2 : Nat → Heap → Prop} (S : ZipSep2 z ti own i1 i2 p1 p2)
    (D1 : ∀ A : Around, A.handled = none → Draws prog w A i1 p1 n1 R1 T1) (D2 : ∀ A : Around, A.handled = none → Draws prog w A i2 p2 n2 R2 T2) (L1 : ∀ h, T1 0 h → ∀ b ∈ p1, ∃ o, h.get? b = some o) (L2' : ∀ h, T2 0 h → ∀ b ∈ p2, ∃ o, h.get? b = some o) :
    PairArg prog w "zip" z (z :: ti :: own :: (p1 ++ p2)) [z, own, i1, i2] (min n1 n2) (fun i k v => R1 i k ∧ R2 i v)
      (fun h => IsZip h z ti own .none ∧ IsTupOf2 h ti (.ref i1) (.ref i2) ∧ (∃ a b, IsTupOf2 h own a b) ∧ T1 0 h ∧ T2 0 h) where
  type := fun s ok => ⟨_, ok.1, rfl⟩
  notDict := by decide
  keep := fun h h' ok hk => by
    obtain ⟨hz, hI, ⟨a, b, hO⟩, h1, h2⟩ := ok
    exact ⟨hk _ _ hz, hk _ _ hI, ⟨a, b, hk _ _ hO⟩, (D1 { } rfl).frame _ _ _ h1 fun b _ o e => hk b o e, (D2 { } rfl).frame _ _ _ h2 fun b _ o e => hk b o e⟩
  there := fun h ok b hb => by
    obtain ⟨hz, hI, ⟨a, c, hO⟩, h1, h2⟩ := ok
    simp only [List.mem_cons, List.mem_append] at hb
    rcases hb with rfl | rfl | rfl | hb | hb
    · exact ⟨_, hz⟩
    · exact ⟨_, hI⟩
    · exact ⟨_, hO⟩
    · exact L1 h h1 b hb
    · exact L2' h h2 b hb
  sub := fun b hb => by
    have e : b = z ∨ b = own ∨ b = i1 ∨ b = i2 := by simpa using hb
    rcases e with rfl | rfl | rfl | rfl
    · exact List.mem_cons_self ..
    · exact List.mem_cons_of_mem _ (List.mem_cons_of_mem _ (List.mem_cons_self ..))
    · exact List.mem_cons_of_mem _ (List.mem_cons_of_mem _ (List.mem_cons_of_mem _ (List.mem_append_left _ S.mem1)))
    · exact List.mem_cons_of_mem _ (List.mem_cons_of_mem _ (List.mem_cons_of_mem _ (List.mem_append_right _ S.mem2)))
  noKeys := fun A s Q E hA ok h => PySem.getAttrOr_miss_zip ok.1 rfl rfl rfl PySem.zip_no_keys (by decide +kernel) hA h
  iter := fun A s d Q E hA ok hd hdf h => by
    obtain ⟨hz, hI, ⟨a, b, hO⟩, h1, h2⟩ := ok
    have nd : ∀ {c : Addr}, c ∈ z :: ti :: own :: (p1 ++ p2) → c ≠ d := fun hc e => hdf (e ▸ hc)
    have nz : z ≠ d := nd (List.mem_cons_self ..)
    have nt : ti ≠ d := nd (List.mem_cons_of_mem _ (List.mem_cons_self ..))
    have no : own ≠ d := nd (List.mem_cons_of_mem _ (List.mem_cons_of_mem _ (List.mem_cons_self ..)))
    have n1 : ∀ c ∈ p1, c ≠ d := fun c hc => nd (List.mem_cons_of_mem _ (List.mem_cons_of_mem _ (List.mem_cons_of_mem _ (List.mem_append_left _ hc))))
    have n2 : ∀ c ∈ p2, c ≠ d := fun c hc => nd (List.mem_cons_of_mem _ (List.mem_cons_of_mem _ (List.mem_cons_of_mem _ (List.mem_append_right _ hc))))
    refine wpAny_pyIter_zip hz (h z [z, own, i1, i2] (fun i h => IsTupOf2 h ti (.ref i1) (.ref i2) ∧ T1 i h ∧ T2 i h ∧ (∃ a b, IsTupOf2 h own a b) ∧ ∃ q f, ZQ h z ti own q f ∧ OutQ q) s.heap s.toks ?_
      ⟨hI, h1, h2, ⟨a, b, hO⟩, _, _, hz, .inl rfl⟩ (fun _ _ e => e) fun b hb => .inl hb)
    exact {
      off := fun hm => by
        have e : d = z ∨ d = own ∨ d = i1 ∨ d = i2 := by simpa using hm
        rcases e with e | e | e | e
        · exact nz e.symm
        · exact no e.symm
        · exact n1 _ S.mem1 e.symm
        · exact n2 _ S.mem2 e.symm
      frame := fun i g1 g2 st hk => by
        obtain ⟨hI, h1, h2, ⟨a, b, hO⟩, q, f, hz, hq⟩ := st
        exact ⟨hk _ _ nt hI, (D1 { } rfl).frame _ _ _ h1 fun b hb o e => hk b o (n1 b hb) e, (D2 { } rfl).frame _ _ _ h2 fun b hb o e => hk b o (n2 b hb) e, ⟨a, b, hk _ _ no hO⟩, q, f, hk _ _ nz hz, hq⟩
      item := fun i s1 Q1 E1 hi st hds hQ => by
        obtain ⟨hI, h1, h2, ⟨a, b, hO⟩, q, f, hz, hq⟩ := st
        refine zq_pynext S (D1 _ hA) (D2 _ hA) hz hq hI hO h1 h2 (by omega) (by omega) fun x y g tk q2 f2 u1 u2 u3 u4 u5 u6 u7 u8 u9 u10 => ?_
        exact hQ _ x y g tk ⟨u1, u2⟩ (.inl ⟨_, u8, rfl, _, rfl⟩) ⟨u10 _ _ S.TIz S.TITO S.TIi1 S.TIi2 hI, u6, u7, u5, q2, f2, u3, u4⟩ fun c o hc e => u10 c o (fun x => hc (by simp [x])) (fun x => hc (by simp [x])) (fun x => hc (by simp [x])) (fun x => hc (by simp [x])) e
      done := fun s1 Q1 E1 st hQ => by
        obtain ⟨hI, h1, h2, ⟨a, b, hO⟩, q, f, hz, hq⟩ := st
        exact zq_pystop S (D1 _ hA) (D2 _ hA) hz hq hI hO h1 h2 (by omega) (by omega) (by omega) fun g tk kp => hQ g tk fun c o hc e => kp c o (fun x => hc (by simp [x])) (fun x => hc (by simp [x])) (fun x => hc (by simp [x])) (fun x => hc (by simp [x])) e }
end Mi
namespace Mi
open PySem PySem.Spec PyProof.Rows L2 Evl
section
variable {X : Cx} {pins : List (Addr × Obj)} {s : Shared} {σ : L2.St} {H : Hp}
/-- an iterator over a list, or over a tuple, of ours -/
def SqE (K : PySem.W.Frag) (H : Hp) (a : Addr) (xs : List V) : Prop := SqL K H a xs ∨ SqT K H a xs
structure Its (prog : Program) (w : World) (v : Value) (o : Obj) (l : Addr) (us : List Value) (T : Addr → Nat → Heap → Prop) : Prop where
  draws : ∀ (A : Around) (it : Addr), A.handled = none → l ≠ it → Draws prog w A it [it, l] us.length (fun i x => us[i]? = some x) (T it)
  begins : ∃ Hh : Heap → Prop, Begins v o Hh ∧ (∀ h h' it, Hh h → (∀ b o', h.get? b = some o' → h'.get? b = some o') → h'.get? it = some o → T it 0 h')
  there : ∀ it h, T it 0 h → ∀ b ∈ [it, l], ∃ o, h.get? b = some o
theorem its_list {prog : Program} {w : World} {l : Addr} {us : List Value} : Its prog w (.ref l) { cls := .type "list_iterator", data := .fields #[.ref l, .int 0 0] } l us (fun it i h => h.IsListIter it l i ∧ h.IsList l us.toArray) where
  draws := fun A it hh hne => by
    have := Draws.list (prog := prog) (w := w) hh it l hne us.toArray
    simpa using this
  begins := ⟨fun h => h.IsList l us.toArray, begins_list l us.toArray, fun h h' it hl hk hi => ⟨⟨_, hi, rfl, rfl⟩, hl.at fun o e => hk l o e⟩⟩
  there := fun it h st b hb => by
    obtain ⟨⟨o1, e1, _⟩, ⟨o2, e2, _⟩⟩ := st
    simp only [List.mem_cons, List.not_mem_nil, or_false] at hb
    rcases hb with rfl | rfl
    · exact ⟨_, e1⟩
    · exact ⟨_, e2⟩
theorem its_tup {prog : Program} {w : World} {l : Addr} {us : List Value} : Its prog w (.ref l) { cls := .type "tuple_iterator", data := .fields #[.ref l, .int 0 0] } l us (fun it i h => h.IsTupleIter it l i ∧ h.IsTuple l us.toArray) where
  draws := fun A it hh hne => by
    have := Draws.tuple (prog := prog) (w := w) hh it l hne us.toArray
    simpa using this
  begins := ⟨fun h => h.IsTuple l us.toArray, begins_tuple l us.toArray, fun h h' it hl hk hi => ⟨⟨_, hi, rfl, rfl⟩, hl.at fun o e => hk l o e⟩⟩
  there := fun it h st b hb => by
    obtain ⟨⟨o1, e1, _⟩, ⟨o2, e2, _⟩⟩ := st
    simp only [List.mem_cons, List.not_mem_nil, or_false] at hb
    rcases hb with rfl | rfl
    · exact ⟨_, e1⟩
    · exact ⟨_, e2⟩
theorem sqE_its (I : Inv X pins σ H s) {a : Addr} {xs : List V} (h : SqE X.K H a xs) : ∃ (us : List Value) (o : Obj) (T : Addr → Nat → Heap → Prop), Vals xs us ∧ xs.length ≤ sizeLine ∧ a < s.heap.objs.size ∧ (∀ it, T it 0 s.heap → True) ∧ ∃ (Hh : Heap → Prop), Hh s.heap ∧ Begins (.ref a) o Hh ∧ (∀ h h' it, Hh h → (∀ b o', h.get? b = some o' → h'.get? b = some o') → h'.get? it = some o → T it 0 h') ∧ (∀ (A : Around) (it : Addr), A.handled = none → a ≠ it → Draws X.prog X.w A it [it, a] us.length (fun i x => us[i]? = some x) (T it)) ∧ (∀ it h, T it 0 h → ∀ b ∈ [it, a], ∃ o, h.get? b = some o) := by
  rcases h with h | h
  · obtain ⟨us, rv, pl, hz⟩ := I.list h
    exact ⟨us, _, _, rv, hz, pl.lt, fun _ _ => trivial, fun h => h.IsList a us.toArray, pl.isList, begins_list a us.toArray, fun h h' it hl hk hi => ⟨⟨_, hi, rfl, rfl⟩, hl.at fun o e => hk a o e⟩, (its_list (prog := X.prog) (w := X.w)).draws, (its_list (prog := X.prog) (w := X.w)).there⟩
  · obtain ⟨us, rv, pl, hz⟩ := I.tuple h
    obtain ⟨o, ho, r⟩ := id pl
    exact ⟨us, _, _, rv, hz, Heap.lt_size ho, fun _ _ => trivial, fun h => h.IsTuple a us.toArray, pl, begins_tuple a us.toArray, fun h h' it hl hk hi => ⟨⟨_, hi, rfl, rfl⟩, hl.at fun o e => hk a o e⟩, (its_tup (prog := X.prog) (w := X.w)).draws, (its_tup (prog := X.prog) (w := X.w)).there⟩
def rDictZ (K : PySem.W.Frag) : List V → Hp → VK → Prop := fun vs H Q => ∃ (a b : Addr) (ks : List Str) (ys : List V), vs = [.ref a, .ref b] ∧ SqE K H a (ks.map V.str) ∧ SqE K H b ys ∧ ys.length = ks.length ∧ ks.Nodup ∧ ∀ p, H p = none → Q (.ref p) (upd H p (.dK ((ks.map fun k => (Sum.inr k : Key)).zip ys)))
theorem kv_zip {P : Program} {w : World} : ∀ {ks : List Str} {ys : List V} {us ws : List Value}, Vals (ks.map V.str) us → Vals ys ws → ys.length = ks.length → KV ((ks.map fun k => (Sum.inr k : Key)).zip ys) ((ks.map fun k => (Sum.inr k : Key)).zip ws)
  | [], _, _, _, _, _, _ => .nil
  | k :: ks, [], _, _, _, _, h => by simp at h
  | k :: ks, y :: ys, us, ws, hu, hw, hl => by
    cases hw with
    | cons hy hw =>
      cases hu with
      | cons hx hu => exact .cons ⟨rfl, hy⟩ (kv_zip (P := P) (w := w) hu hw (by simpa using hl))
theorem merge_nodup : ∀ (more acc : List (Key × V)), ((acc ++ more).map (·.1)).Nodup → mergeK acc more = acc ++ more
  | [], acc, _ => by simp [mergeK]
  | (k, v) :: r, acc, h => by
    have h1 : putK acc k v = acc ++ [(k, v)] := putK_new fun p hp e => by
      rw [List.map_append, List.nodup_append] at h
      exact h.2.2 p.1 (List.mem_map.mpr ⟨p, hp, rfl⟩) k (by simp) e
    show mergeK (putK acc k v) r = _
    rw [h1, merge_nodup r (acc ++ [(k, v)]) (by rw [List.append_assoc]; exact h), List.append_assoc]
    rfl
theorem zip_nodup {ks : List Str} {ys : List V} (h : ks.Nodup) (hl : ys.length = ks.length) : ((((ks.map fun k => (Sum.inr k : Key)).zip ys)).map (·.1)).Nodup := by
  rw [List.map_fst_zip (by simp [hl])]
  exact List.pairwise_map.mpr (h.imp fun hne e => hne (Sum.inr.inj e))
theorem pe_dictZ {a b : Expr} {ta : TA} {p p2 pos pos2 : Pos} (hg : Gl X "dict") (hm : X.mg "dict" = none) (hg2 : Gl X "zip") (hm2 : X.mg "zip" = none) (ha : PA X [a, b] ta)
    (hs : starEach [a, b] X.env = (false, eval a X.env) :: starEach [b] X.env := by rfl) (hpl : (backTo pos2 (starEach [b] X.env)).any (·.1) = false := by rfl) (hc : X.calm = true := by rfl) :
    PE X (.Call (.Name "dict" p) [.Call (.Name "zip" p2) [a, b] [] pos2] [] pos) (tCB (rDictZ X.K) ta) := by
  refine ⟨fun pins s σ H Q I h => ?_⟩
  refine Call_ (ld_blt I hg hm boot_dict (PyProof.Rows.callWith_type1 (args_cons (Call_ (ld_blt I hg2 hm2 PyProof.Rows.boot_zip (PyProof.Rows.callWith_type1 (thn (ha.run pos2 pins s σ H _ I h) fun us s1 ⟨vs, H1, I1, r1, q1⟩ => ?_) hs hpl))))))
  obtain ⟨x, y, ks, ys, ex, hx, hy, hl, hn, q⟩ := q1
  subst ex
  cases r1 with
  | cons r rr =>
    cases rr with
    | cons r' rr =>
      cases rr
      cases r
      cases r'
      obtain ⟨us1, o1, T1, rv1, z1, lt1, _, Hh1, hh1, B1, st1, D1, L1⟩ := sqE_its I1 hx
      obtain ⟨us2, o2, T2, rv2, z2, lt2, _, Hh2, hh2, B2, st2, D2, L2'⟩ := sqE_its I1 hy
      refine zip_begins2 B1 B2 hh1 hh2 fun h' hz hTI hTO h1 h2 hsz hk => args_nil ?_
      have S : ZipSep2 (s1.heap.objs.size + 4) (s1.heap.objs.size + 2) (s1.heap.objs.size + 3) s1.heap.objs.size (s1.heap.objs.size + 1) [s1.heap.objs.size, x] [s1.heap.objs.size + 1, y] :=
        zip_sep2 (N := s1.heap.objs.size) (fp1 := [x]) (fp2 := [y]) (fun _ h => by rw [List.mem_singleton.mp h]; exact lt1) (fun _ h => by rw [List.mem_singleton.mp h]; exact lt2)
      have e1 : us1.length = ks.length := by have := rv1.length; rw [List.length_map] at this; omega
      have e2 : us2.length = ks.length := by have := rv2.length; omega
      have P := pairArg_zip (prog := X.prog) (w := X.w) S (fun A hA => D1 A s1.heap.objs.size hA (Nat.ne_of_lt lt1)) (fun A hA => D2 A (s1.heap.objs.size + 1) hA (Nat.ne_of_lt (Nat.lt_succ_of_lt lt2))) (L1 _) (L2' _)
      refine call_dict_pairs (s := { s1 with heap := h' }) (knd := mixKind X.prog X.w) (kvs := (ks.map fun k => (Sum.inr k : Key)).zip us2) P (I1.ok.hd hc) ⟨hz, hTI, ⟨_, _, hTO⟩, st1 s1.heap h' _ hh1 hk h1, st2 s1.heap h' _ hh2 hk h2⟩ ⟨?_, fun i key v hr => ?_⟩ ?_ fun h2' tk hd' hk2 => ?_
      · rw [List.length_zip, List.length_map]
        omega
      · obtain ⟨r1, r2⟩ := hr
        have hi : i < us1.length := (List.getElem?_eq_some_iff.mp r1).1
        have hi2 : i < ks.length := by omega
        have hk1 : ks[i]? = some ks[i] := List.getElem?_eq_getElem hi2
        obtain ⟨u, hu, ru⟩ := rv1.get (i := i) (x := V.str ks[i]) (by rw [List.getElem?_map, hk1]; rfl)
        have eu : u = key := Option.some.inj (hu.symm.trans r1)
        subst eu
        exact ⟨Sum.inr ks[i], List.getElem?_zip_eq_some.mpr ⟨by rw [List.getElem?_map, hk1]; rfl, r2⟩, kV_is (P := X.prog) (w := X.w) (k := Sum.inr ks[i]) ru⟩
      · rw [List.length_map] at z1
        omega
      · have hm : (h'.objs.size == sysModules) = false := beq_eq_false_iff_ne.mpr (Nat.ne_of_gt (by rw [hsz]; exact Nat.lt_of_lt_of_le I1.big (Nat.le_add_right _ _)))
        have kv := kv_zip (P := X.prog) (w := X.w) rv1 rv2 hl
        have em : mergeK [] ((ks.map fun k => (Sum.inr k : Key)).zip ys) = (ks.map fun k => (Sum.inr k : Key)).zip ys := merge_nodup _ [] (by rw [List.nil_append]; exact zip_nodup hn hl)
        have hle : s1.heap.objs.size ≤ h'.objs.size := by rw [hsz]; exact Nat.le_add_right _ _
        have kk : ∀ b u, s1.heap.get? b = some u → h2'.get? b = some u := fun b u e => hk2 b u (fun hb => by
          have lt := Heap.lt_size e
          have e' : b = s1.heap.objs.size + 4 ∨ b = s1.heap.objs.size + 3 ∨ b = s1.heap.objs.size ∨ b = s1.heap.objs.size + 1 := by simpa using hb
          rcases e' with q | q | q | q
          · exact absurd (q ▸ lt) (Nat.not_lt_of_le (Nat.le_add_right _ _))
          · exact absurd (q ▸ lt) (Nat.not_lt_of_le (Nat.le_add_right _ _))
          · exact absurd (q ▸ lt) (Nat.lt_irrefl _)
          · exact absurd (q ▸ lt) (Nat.not_lt_of_le (Nat.le_add_right _ _))) (hk b u e)
        have mm := KV.merge kv .nil
        rw [em] at mm
        have zl : ((ks.map fun k => (Sum.inr k : Key)).zip ys).length ≤ sizeLine := by
          rw [List.length_zip, List.length_map]
          rw [List.length_map] at z1
          omega
        exact ⟨.ref h'.objs.size, _, I1.laid (t' := tk) kk hle (dk_new zl hm mm hd'), rfl, q _ (I1.hok.fresh hle)⟩
end
section
variable {K : PySem.W.Frag} {G H : Hp}
theorem valV_zip {ks : List Str} {ys : List V} {k : Str} {y : V} : ∀ {i : Nat}, ks.Nodup → ks[i]? = some k → ys[i]? = some y → valV ((ks.map fun k => (Sum.inr k : Key)).zip ys) (Sum.inr k) = some y := by
  induction ks generalizing ys with
  | nil => intro i _ h _; simp at h
  | cons a r ih =>
    intro i hn h1 h2
    cases ys with
    | nil => simp at h2
    | cons b t =>
      obtain ⟨hn1, hn2⟩ := List.nodup_cons.mp hn
      cases i with
      | zero =>
        obtain rfl := Option.some.inj h1
        obtain rfl := Option.some.inj h2
        simp [valV]
      | succ i =>
        have hr : k ∈ r := List.mem_of_getElem? h1
        have ne : ¬ (Sum.inr a : Key) = Sum.inr k := fun e => hn1 (by rw [Sum.inr.inj e]; exact hr)
        have := ih (ys := t) hn2 h1 h2
        simpa [valV, ne] using this
end
end Mi
namespace Mi
open PySem PySem.Spec PyProof.Rows L2 Evl
/-! ### (a, b) <= (c, d) -/
def leB (a b c d : Int) : Bool := if a = c then decide (b ≤ d) else decide (a ≤ c)
theorem op_leT_k {X : Cx} {K : PySem.W.Frag} (hu : X.A.units + 2 < cLine) (h : X.K = K := by rfl) : OpR X (compareOp .LtE) (rLeT K) := h ▸ op_leT (Nat.lt_of_le_of_lt (Nat.le_add_right _ 2) hu)
theorem ro_leT2 {K : PySem.W.Frag} {a b c d : Int} : Ro K (rLeT K) (.u (vis [a, b])) (.u (vis [c, d])) (.b (leB a b c d)) := by
  rintro _ _ H1 ⟨p, rfl, hp⟩ ⟨p', rfl, hp'⟩ Q q
  refine ⟨p, p', [a, b], [c, d], rfl, rfl, hp, hp', q _ H1 (Ex.refl H1) ?_⟩
  show V.bl _ = V.bl _
  congr 1
  unfold leB
  by_cases h : a = c
  · by_cases h2 : b = d
    · subst h h2
      simp [Ob.lexAt]
    · subst h
      simp [Ob.lexAt, h2]
  · simp [Ob.lexAt, h]
end Mi
namespace Mi
open PySem PySem.Spec PyProof.Rows L2 Evl
/-! ### len(obj), the object's class has its own __len__ -/
def rLenO (C : Addr) (sp : Sp) : List V → Hp → VK → Prop := fun vs H Q => ∃ a dx fs, vs = [.ref a] ∧ H a = some (.ins C dx fs) ∧ sp [.ref a] H (fun v H' => ∃ n : Int, v = .int n ∧ (0 ≤ n ∧ n < 2 ^ 63) ∧ Q (.int n) H') E0
theorem cr_lenO {X : Cx} {k : Nat} {f C : Addr} {fd : FuncData} {sp : Sp} {p1 : Str} (hi : PySem.W.findIn X.K (.ref C) "__len__" = some (some (.ref f))) (hfn : PySem.W.isFn X.K (.ref f) = true) (F : FnOk X.prog X.w X.K X.mg X.base CX0 k f fd [p1] sp) (hb : Binds X.K fd [p1] []) (hr : Room (k + 1) X.A) : CallR X (.builtin "len") (rLenO C sp) := by
  rintro pins s σ H xs us Q I r ⟨a, dx, fs, rfl, hx, h⟩
  obtain rfl := Vals.ref1 r
  obtain ⟨mA, J, _⟩ := ins_get I.hok hx
  obtain ⟨od, J, _⟩ := J.look
  obtain ⟨m, hF⟩ := I.fr
  refine PySem.W.len_K hF I.ok.mod.kin J hi hfn ?_
  have bd := hb s [.ref a] (I.kIn) rfl
  have hr1 : Room k X.A.in1 := Room.in1 (show Room (k + 1) X.A from hr)
  refine wpAny_call (codeAny_mono (F.run X.A.in1 X.stack s H ⟨[.ref a], []⟩ [.ref a] [.ref a] _ E0 hr1 I.env0.in1 bd (.cons rfl .nil) h) fun r s' hq => ?_)
  cases r with
  | error e => exact pass0 pins σ H s e s' I hq
  | ok fl =>
    cases fl with
    | ret u =>
      obtain ⟨w, H', I2, rv, n, rfl, hn, q⟩ := I.after hq
      obtain ⟨tk, eu⟩ : ∃ tk, u = .int n tk := rv
      subst eu
      exact ⟨hn, ⟨.int n, H', I2.tok _, ⟨_, rfl⟩, q⟩⟩
    | next => exact False.elim hq
    | brk => exact False.elim hq
    | cont => exact False.elim hq
/-! ### raise X(), X an own exception class without its own __init__ -/
theorem pmk_own0 {X : Cx} {C : Addr} {bmB : List Value} {B newId initId : String} {x : Str} {p pos : Pos} (F : ExcBaseFacts B newId initId bmB) (q : PySem.W.excIn X.K C bmB newId = true) (gC : X.mg x = some (.ref C)) (kC : PySem.W.keepIn X.K (.ref C) = true) (r : L2.Raises X (.ref C)) (hg : Gl X x)
    (hdb : (x == ("__debug__" : Str)) = false := by decide) : L2N.PMk X (.Call (.Name x p) [] [] pos) (fun _ H Q => Q (.ref C) none H) := by
  intro pins s σ H Q I h
  refine wpAny_Call_Name_kw (ld_glob I hg gC ?_ hdb)
  refine PySem.W.callWith_K0 I.kIn kC ?_
  show wpAny _ _ (call (.ref C) []) _ _ _
  obtain ⟨bm, N, nm, qn, bs, hdct, sn, sub, ab, col, dd, k0, k1, k2, k3, k5, mN, hC, hN, hni, T⟩ := exc_obj I.kIn q
  refine wpAny_call_exc_subT F T hC hN hni (fun h' e hm => ?_) (Nat.zero_le _)
  exact L2N.mk_of I hm r h (I.hok.gone hm.new)
/-! ### isinstance(e, A), isinstance(e, (A, B)), e without fields -/
def rIsE0 (K : PySem.W.Frag) (a : Addr) (cls : Value) (d : Option Addr) : List V → Hp → VK → Prop := fun xs H Q => ∃ (c : V) (cv : Value) (b : Bool) (D : Addr), xs = [.ref a, c] ∧ cls = .ref D ∧ d = none ∧ ExcC K D ∧ (∀ u, RelV c u → u = cv) ∧ PySem.W.kitOne K (.ref D) cv = some b ∧ Q (.bl b) H
def rIsET (K : PySem.W.Frag) (a : Addr) (cls : Value) (d : Option Addr) : List V → Hp → VK → Prop := fun xs H Q => ∃ (tp c1 c2 : Addr) (b : Bool) (D : Addr), xs = [.ref a, .ref tp] ∧ H tp = some (.tup [.ref c1, .ref c2]) ∧ cls = .ref D ∧ d = none ∧ ExcC K D ∧ PySem.W.kitAny K (.ref D) [.ref c1, .ref c2] = some b ∧ Q (.bl b) H
theorem exc_at {h : Heap} {a D : Addr} {oe : Obj} (hget : h.get? a = some oe) (hz : Zc (.ref D) none oe) (hf : ∃ vs, oe.data = .fields vs) : PySem.W.InstAt h a oe D none := by
  obtain ⟨vs, hv⟩ := hf
  obtain ⟨oc, od, oda, osl⟩ := oe
  obtain ⟨h1, h2⟩ := hz
  dsimp only at h1 h2 hv
  subst h1 h2 hv
  exact ⟨hget, rfl, rfl, trivial⟩
theorem call_isE0 {X : Cx} {K : PySem.W.Frag} {a : Addr} {oe : Obj} {cls : Value} {d : Option Addr} {pn : List (Addr × Obj)} (hz : Zc cls d oe) (hf : ∃ vs, oe.data = .fields vs) (h : X.K = K := by rfl) : CallR (X.suite a ((a, oe) :: pn)) (.builtin "isinstance") (rIsE0 K a cls d) := by
  subst h
  rintro pins s σ H xs us Q I r ⟨c, cv, b, D, rfl, rfl, rfl, C, hcv, e, q⟩
  obtain ⟨u1, u2, rfl, ru1, ru2⟩ := vals2 r
  obtain rfl : u1 = Value.ref a := ru1
  obtain rfl := hcv _ ru2
  obtain ⟨hget, _⟩ := I.pin (a, oe) (List.mem_append_left _ List.mem_cons_self)
  exact PySem.W.kia_one (PySem.W.handS_kitx_exc C.hg C.hk C.hs C.hd C.ha C.hn C.ht C.hm) I.kIn (exc_at hget hz hf) e (fun z => nomatch z) fun tk => ⟨.bl b, H, I.kept (t' := tk) fun _ _ z => z, rfl, q⟩
theorem call_isET {X : Cx} {K : PySem.W.Frag} {a : Addr} {oe : Obj} {cls : Value} {d : Option Addr} {pn : List (Addr × Obj)} (hz : Zc cls d oe) (hf : ∃ vs, oe.data = .fields vs) (h : X.K = K := by rfl) : CallR (X.suite a ((a, oe) :: pn)) (.builtin "isinstance") (rIsET K a cls d) := by
  subst h
  rintro pins s σ H xs us Q I r ⟨tp, c1, c2, b, D, rfl, hT, rfl, rfl, C, e, q⟩
  obtain ⟨u1, u2, rfl, ru1, ru2⟩ := vals2 r
  obtain rfl : u1 = Value.ref a := ru1
  obtain rfl : u2 = Value.ref tp := ru2
  obtain ⟨hget, _⟩ := I.pin (a, oe) (List.mem_append_left _ List.mem_cons_self)
  have J := exc_at hget hz hf
  obtain ⟨_, its, rv, o, h1, h2, n, h3⟩ := (show ObjOk X.prog X.w H s.heap tp (.tup [.ref c1, .ref c2]) from I.hok tp _ hT)
  obtain ⟨w1, w2, rfl, z1, z2⟩ := vals2 rv
  obtain rfl : w1 = Value.ref c1 := z1
  obtain rfl : w2 = Value.ref c2 := z2
  obtain ⟨oc, od, dt, sl⟩ := o
  simp only at h2 h3
  subst h2 h3
  exact PySem.W.kia_tup (PySem.W.handS_kitx_exc C.hg C.hk C.hs C.hd C.ha C.hn C.ht C.hm) I.kIn J h1 e (fun z => nomatch z) fun tk => ⟨.bl b, H, I.kept (t' := tk) fun _ _ z => z, rfl, q⟩
/-! ### calls by name, in the declared order -/
structure HasD (P : Program) (w : World) (K : PySem.W.Frag) (mg : Str → Option Value) (base : Heap) (k : Nat) (x : Str) (ps : List Str) (sp : Sp) : Prop where
  ex : ∃ f fd, mg x = some (.ref f) ∧ PySem.W.keepIn K (.ref f) = true ∧ FnOk P w K mg base CX0 k f fd ps sp ∧ ∀ (s : Shared) (ws : List Value), ws.length = ps.length → BindsTo s fd ⟨[], ps.zip ws⟩ (ps.zip ws)
theorem pe_callD {X : Cx} {k : Nat} {ps : List Str} {sp : Sp} {x : Str} {p pos : Pos} {kws : List Keyword} {t : TA} (F : HasD X.prog X.w X.K X.mg X.base k x ps sp) (hr : Room k X.A) (hkw : PK X kws t) (hg : Gl X x := by rfl) (hdb : (x == ("__debug__" : Str)) = false := by decide)
    (hall : (backToKw pos (keywordEach kws X.env)).all (·.1.isSome) = true := by rfl)
    (hks : (backToKw pos (keywordEach kws X.env)).filterMap (·.1) = ps := by rfl)
    (hpl : (backToKw pos (keywordEach kws X.env)).any (·.1.isNone) = false := by rfl) :
    PE X (.Call (.Name x p) [] kws pos) (tCall sp [] E0 t) := by
  obtain ⟨f, fd, hm, hk, F, hb⟩ := F.ex
  refine ⟨fun pins s σ H Q I h => ?_⟩
  refine wpAny_Call_Name_kw (ld_glob I hg hm ?_ hdb)
  refine PySem.W.callWith_KW0 (h₀ := X.base) I.ok.mod.kin hk hall (thn (hkw.run pos pins s σ H _ I h) fun ws s2 ⟨zs, H2, I2, rz, q2⟩ => ⟨I2.kIn, ?_⟩) hpl
  rw [hks]
  replace q2 : sp (zs ++ []) H2 Q E0 := q2
  rw [List.append_nil] at q2
  have hl := F.len _ _ _ _ q2
  have hw : ws.length = ps.length := by rw [← rz.length]; exact hl
  refine wpAny_call (codeAny_mono (F.run X.A X.stack s2 H2 ⟨[], ps.zip ws⟩ ws zs Q E0 hr I2.env0 (hb s2 ws hw) rz q2) fun r s' hq => ?_)
  cases r with
  | error e => exact pass0 pins σ H2 s2 e s' I2 hq
  | ok fl =>
    cases fl with
    | ret u => exact I2.after hq
    | next => exact False.elim hq
    | brk => exact False.elim hq
    | cont => exact False.elim hq
end Mi
namespace L2N
open PySem PySem.Spec PyProof.Rows L2
/-! ### try: .. except A as n: .. and further clauses, where the first one takes it -/
section
variable {X : Cx} {x n : Str} {c : Value} {i : Nat} {body suite : List Stmt} {b₀ : Stmt} {np pos pos' : Pos} {hds : List ExceptHandler} {tb : WX → TS} {ts : Addr → Value → Option Addr → TS}
theorem ps_try_as1 (hs : X.stack = X.env :: X.outer) (hf : X.env.frame = some X.env.locals) (hN : X.N.Nodup) (hi : X.N[i]? = some n) (hln : X.env.kindOf n = some .local) (hc : Names X x c)
    (hb : ∀ (W : WX) (pn : List (Addr × Obj)) (xe : Value → Shared → Prop), Takes (X.tr pn xe) W → PassesOwn (model X.prog X.w) X.A X.env xe → PSs (X.tr pn xe) body (tb W))
    (hsu : ∀ (a : Addr) (oe : Obj) (cls : Value) (d : Option Addr) (pn : List (Addr × Obj)), Zn cls d oe → (∃ vs, oe.data = .fields vs) → PSs (X.suite a ((a, oe) :: pn)) (b₀ :: suite) (ts a cls d)) :
    PS X (.Try body (.ExceptHandler (some (.Name x np)) (some n) (b₀ :: suite) pos' :: hds) [] [] pos) (fun D σ H => tb (wAs X.K c i ts (fun _ _ _ _ => False) D) D σ H) := by
  refine ⟨fun pins s σ H D I h => ?_⟩
  have ok := I.ok
  have hfr : X.A.frames = some (X.env :: X.outer) := by rw [ok.frames, hs]
  have hloc : Loc X.env.scope n := .inl hln
  refine wpAny_Try_except ?_
  refine wpAny_mono ((hb (wAs X.K c i ts (fun _ _ _ _ => False) D) (X.pn ++ pins) (fun e s₁ => wpAny (model X.prog X.w) X.A (noteFrame e X.env) (fun _ s₂ => wpAny (model X.prog X.w) X.A (setFlight e none) (fun _ s₃ =>
    wpAny (model X.prog X.w) X.A (handleBy e X.env (.ExceptHandler (some (.Name x np)) (some n) (b₀ :: suite) pos' :: hds)) (SP X pins D) X.xe s₃) X.xe s₂) X.xe s₁) (fun u s' xx => ?_) PassesOwn.looking).run [] s σ H D (I.toTry _) h) (fun f s1 hsp => ?_) (fun e s1 he => he)
  · obtain ⟨a, B, sI, pins', σ', H', cls, d, rfl, J', nb, up, sky, na, os, ag, b, hb1, hyes, hno⟩ := xx
    have J : Inv X pins σ' H' sI := J'.ofTry ok
    have sky' : Sky B (X.env :: X.outer) a (Zn cls d) X.env.locals s'.heap := by rw [← hs]; exact sky
    show wpAny (model X.prog X.w) X.A (noteFrame (.ref a) X.env) _ _ _
    refine Sky.land Zn.steady hfr hf sky' fun h3 fl3 up3 => ?_
    have J3 : Inv X pins σ' H' { s' with heap := h3 } := J.landed nb fl3.1 (up.trans up3) os ag
    obtain ⟨oe3, vs3, he3, hz3, hd3⟩ := fl3.there
    have notFr : ∀ {h : Heap} {o : Obj} {vs : Array Value}, h.FunFrames B (X.env :: X.outer) → h.get? a = some o → o.data = .fields vs → a ∉ frs (X.env :: X.outer) := fun {h o vs} ff e dd hm => by
      obtain ⟨_, o', e', hnf⟩ := ff.mem hm
      rw [e] at e'; cases e'
      exact hnf _ dd
    have nfr := notFr fl3.2.2.1 he3 hd3
    have nL : a ≠ X.env.locals := fun z => nfr (List.mem_filterMap.mpr ⟨X.env, List.mem_cons_self, by rw [hf, z]⟩)
    have nF : a ∉ X.fs := fun hm => by
      obtain ⟨e, he, q⟩ := List.mem_filterMap.mp hm
      exact nfr (List.mem_filterMap.mpr ⟨e, List.mem_cons_of_mem _ he, q⟩)
    have S3 := J3.suite he3 hd3 na nL nF
    refine wpAny_handleBy_cons (codeAny_handlers_test ?_) (by intro q; cases q)
    have LT : PySem.W.Looks (model X.prog X.w) h3 (typeOf (.ref a)) cls := fun A Q E s k q => wpAny_typeOf_ref (k _ _ he3) (by rw [hz3.1]; exact q)
    have LM := PySem.W.exm_one (M := model X.prog X.w) (J3.kIn) LT hb1
    have test : ∀ {Q : Value → Shared → Prop} {E : Value → Shared → Prop}, Q c { s' with heap := h3 } → wpAny (model X.prog X.w) (X.A.mark (some (.ref a))) (eval (.Name x np) X.env) Q E { s' with heap := h3 } := fun {Q E} q => by
      obtain ⟨hg, hdbg, hm | ⟨hm, hv, hnn⟩⟩ := hc
      · exact ld_glob (X := X.suite a ((a, oe3) :: (X.pn ++ pins))) S3 hg hm q hdbg
      · exact ld_blt (X := X.suite a ((a, oe3) :: (X.pn ++ pins))) S3 hg hm hv q hnn hdbg
    refine test (LM.here ?_)
    cases b with
    | true =>
      refine codeAny_handlers_suite_as ?_
      refine HandSPX.lands_againZ fl3 fun h4 fl4 up4 => ?_
      have J4 : Inv X pins σ' H' { s' with heap := h4 } := J.landed nb fl4.1 ((up.trans up3).trans up4) os ag
      obtain ⟨oe4, vs4, he4, hz4, hd4⟩ := fl4.there
      have S4 := J4.suite he4 hd4 na nL nF
      refine store_ok (X := X.suite a ((a, oe4) :: (X.pn ++ pins))) (v := .ref a) S4 hN hi hloc rfl (fun s5 S5 => ?_) (.inr hln)
      refine wpAny_mono ((hsu a oe4 cls d (X.pn ++ pins) hz4 ⟨_, hd4⟩).run [] s5 _ H' _ S5 (hyes rfl a na)) (fun f s6 hsp => ?_) (fun _ _ z => False.elim z)
      have end_ : ∀ {σ6 : St} {H6 : Hp} {Q : Shared → Prop}, Inv (X.suite a ((a, oe4) :: (X.pn ++ pins))) [] σ6 H6 s6 → (∀ s7, Inv X pins (σ6.set i none) H6 s7 → Q s7) →
          wpAny (model X.prog X.w) X.A (do bindName X.env n .none; unbindBehindTheSuite X.env n pos') (fun _ s7 => Q s7) X.xe s6 := fun {σ6 H6 Q} S6 hq => gone_ok (S6.unsuite ok) hN hi hln hq
      cases f with
      | next =>
        obtain ⟨σ6, H6, S6, q6⟩ := hsp
        exact end_ S6 fun s7 J7 => ⟨_, _, J7, q6⟩
      | brk =>
        obtain ⟨σ6, H6, S6, q6⟩ := hsp
        exact end_ S6 fun s7 J7 => ⟨_, _, J7, q6⟩
      | cont =>
        obtain ⟨σ6, H6, S6, q6⟩ := hsp
        exact end_ S6 fun s7 J7 => ⟨_, _, J7, q6⟩
      | ret u =>
        obtain ⟨v6, σ6, H6, S6, r6, q6⟩ := hsp
        exact end_ S6 fun s7 J7 => ⟨_, _, _, J7, r6, q6⟩
    | false => exact False.elim (hno rfl)
  · cases f with
    | next =>
      obtain ⟨σ', H', J', q⟩ := hsp
      exact wpAny_execs_nil ⟨σ', H', J'.ofTry ok, q⟩
    | brk =>
      obtain ⟨σ', H', J', q⟩ := hsp
      exact ⟨σ', H', J'.ofTry ok, q⟩
    | cont =>
      obtain ⟨σ', H', J', q⟩ := hsp
      exact ⟨σ', H', J'.ofTry ok, q⟩
    | ret u =>
      obtain ⟨v, σ', H', J', r, q⟩ := hsp
      exact ⟨v, σ', H', J'.ofTry ok, r, q⟩
end
end L2N

set_option maxHeartbeats 4000000
namespace Mi
open PySem PySem.Spec PyProof.Rows L2 Evl
local macro_rules | `(tactic| walk_at "side") => `(tactic| (first | assumption | omega | exact rfl | decide | (simp only [List.length_cons, List.length_nil, List.length_map, List.length_append, List.length_replicate] <;> omega)))
local macro_rules | `(tactic| walk_at "ro") => `(tactic| (first
  | with_reducible exact ro_I0
  | with_reducible exact ro_1018
  | with_reducible exact ro_neC
  | with_reducible exact ro_eqC
  | with_reducible exact ro_neI
  | with_reducible exact ro_eqI
  | with_reducible exact ro_neB
  | with_reducible exact ro_eqB
  | ((with_reducible apply ro_mod); (walk_at "side"))
  | ((with_reducible apply ro_div) <;> (walk_at "side"))
  | ((with_reducible apply ro_divW) <;> (walk_at "side"))
  | with_reducible exact ro_1012
  | with_reducible exact ro_1015
  | ((with_reducible apply ro_mulL) <;> (walk_at "side"))
  | ((with_reducible apply ro_mulR) <;> (walk_at "side"))
  | ((with_reducible apply ro_addC); (walk_at "side"))
  | ((with_reducible apply ro_ixC) <;> (walk_at "side"))
  | ((with_reducible apply ro_ixI) <;> (walk_at "side"))
  | ((with_reducible apply ro_ixIN) <;> (walk_at "side"))
  | ((with_reducible apply ro_ixT2) <;> (walk_at "side"))
  | ((with_reducible apply ro_ixG) <;> (walk_at "side"))
  | ((with_reducible apply ro_eq); exact rfl)
  | ((with_reducible apply ro_ne); exact rfl)
  | with_reducible exact ro_isN
  | with_reducible exact ro_notN
  | with_reducible exact ro_eqL
  | with_reducible exact ro_neL
  | with_reducible exact ro_eqU
  | ((with_reducible apply ro_cat); (walk_at "side"))
  | with_reducible exact ro_inLi
  | with_reducible exact ro_inNi
  | with_reducible exact ro_inUi
  | ((with_reducible apply ro_inL) <;> (walk_at "side"))
  | ((with_reducible apply ro_inN) <;> (walk_at "side"))
  | ((with_reducible apply ro_inU) <;> (walk_at "side"))))
local macro_rules | `(tactic| walk_at "rc") => `(tactic| (first
  | with_reducible exact rc_int
  | with_reducible exact rc_intB
  | with_reducible exact rc_max2
  | ((with_reducible apply rc_lenC); (walk_at "side"))
  | with_reducible exact rc_lenI
  | with_reducible exact rc_lenT
  | with_reducible exact rc_lenIN
  | with_reducible exact rc_lenTN
  | with_reducible exact rc_lenL
  | with_reducible exact rc_lenN
  | with_reducible exact rc_lenU
  | with_reducible exact rc_listL
  | with_reducible exact rc_listU
  | with_reducible exact rc_tupL
  | with_reducible exact rc_tupN
  | ((with_reducible apply rc_isi_int); decide +kernel)
  | ((with_reducible apply rc_isi_str); decide +kernel)
  | ((with_reducible apply rc_isi_bl); decide +kernel)
  | ((with_reducible apply rc_isi_non); decide +kernel)
  | ((with_reducible apply rc_isi_u); decide +kernel)
  | ((with_reducible apply rc_isi_l); decide +kernel)))
local macro_rules | `(tactic| walk_at "er") => `(tactic| (first
  | ((with_reducible apply er_var); (exact rfl); assumption)
  | ((with_reducible apply er_v); exact rfl)
  | with_reducible exact er_c
  | ((with_reducible apply er_pick); (walk_at "er"); (walk_at "er"); (walk_at "er"))
  | ((with_reducible apply er_op); (walk_at "er"); (walk_at "er"); (walk_at "ro"))
  | ((with_reducible apply er_cb); (walk_at "era"); (walk_at "rc"))
  | ((with_reducible apply er_lst'); (walk_at "era"); (exact rfl); (walk_at "side"))
  | ((with_reducible apply er_tup'); (walk_at "era"); (exact rfl); (walk_at "side"))
  | ((with_reducible apply er_notV); (walk_at "er"))
  | ((with_reducible apply er_andV); (walk_at "er"); (intro _; (walk_at "er")))
  | ((with_reducible apply er_orV); (walk_at "er"); (intro _; (walk_at "er")))
  | ((with_reducible apply er_ite); (walk_at "et"); (intro _; (walk_at "er")); (intro _; (walk_at "er")))))
local macro_rules | `(tactic| walk_at "era") => `(tactic| (first
  | with_reducible exact era_nil
  | ((with_reducible apply era_cons); (walk_at "er"); (walk_at "era"))))
local macro_rules | `(tactic| walk_at "et") => `(tactic| (first
  | ((with_reducible apply et_an); (walk_at "et"); (intro _; (walk_at "et")))
  | ((with_reducible apply et_orr); (walk_at "et"); (intro _; (walk_at "et")))
  | ((with_reducible apply et_nt); (walk_at "et"))
  | ((with_reducible apply et1); (walk_at "er"))
  | ((with_reducible apply et2); (walk_at "er"))))

def topS (i : Nat) : Stmt := PySem.Challenge.pw_stampsheets_k49_row_costs.main.body.getD i (.Pass ⟨0, 0, 0, 0⟩)
def letters : List Nat := [97, 98, 99, 100, 101, 102, 103, 104, 105, 106, 107, 108, 109, 110, 111, 112, 113, 114, 115, 116, 117, 118, 119, 120, 121, 122]
def alls : List Nat := 46 :: letters
def signs : List Nat := 45 :: alls
def digits : List Nat := [48, 49, 50, 51, 52, 53, 54, 55, 56, 57]
/-- what the top leaves of the names that the defs read -/
structure Txt (K : PySem.W.Frag) (mg : Str → Option Value) : Prop where
  g_DASH : ∃ t, mg "DASH" = some (.str (S [45]) t)
  g_LETTERS : ∃ t, mg "LETTERS" = some (.str (S letters) t)
  g_MARKS : ∃ t, mg "MARKS" = some (.str (S alls) t)
  g_LONGEST : ∃ t, mg "LONGEST" = some (.int 30 t)
  g_DIGITS : ∃ t, mg "DIGITS" = some (.str (S digits) t)
  g_LONGEST_NAME : ∃ t, mg "LONGEST_NAME" = some (.int 8 t)
  b_len : mg "len" = none
  b_int : mg "int" = none
  b_bool : mg "bool" = none
  b_str : mg "str" = none
  b_tuple : mg "tuple" = none
  b_list : mg "list" = none
  b_zip : mg "zip" = none
  b_enumerate : mg "enumerate" = none
  b_range : mg "range" = none
  b_max : mg "max" = none
  b_min : mg "min" = none
  b_sum : mg "sum" = none
  b_all : mg "all" = none
  b_any : mg "any" = none
  b_isinstance : mg "isinstance" = none
  b_iter : mg "iter" = none
  b_sorted : mg "sorted" = none
  b_reversed : mg "reversed" = none
section
variable {P : Program} {w : World} {K : PySem.W.Frag} {mg : Str → Option Value} {base : Heap}

def okP (p : Nat × Nat) : Bool := p.1 == p.2 || (p.1 == 45 || p.2 == 45)
def agreeM (a b : List Nat) : Bool := (a.zip b).all okP
theorem zip_at {a b : List Nat} {i c d : Nat} (h1 : a[i]? = some c) (h2 : b[i]? = some d) : (a.zip b)[i]? = some (c, d) := List.getElem?_zip_eq_some (z := (c, d)) |>.mpr ⟨h1, h2⟩
theorem all_next {α : Type} {l : List α} {p : α → Bool} {i : Nat} {x : α} (h : l[i]? = some x) : (l.take (i + 1)).all p = ((l.take i).all p && p x) := by
  rw [List.take_add_one, h, List.all_append]
  simp
theorem all_end {α : Type} {l : List α} {p : α → Bool} : (l.take l.length).all p = l.all p := by rw [List.take_length]
theorem all_not {α : Type} {l : List α} {p : α → Bool} {i : Nat} {x : α} (h : l[i]? = some x) (hp : p x = false) : l.all p = false := by
  rw [List.all_eq_false]
  exact ⟨x, List.mem_of_getElem? h, by rw [hp]; exact Bool.false_ne_true⟩
abbrev s__law_cell : Stmt := topS 34
theorem sc__law_cell : FnScope ["script", "k", "seed", "value"] ["script", "k"] (defScope s__law_cell) := ⟨rfl, rfl, rfl, by decide +kernel, rfl, by decide +kernel, by decide +kernel⟩

def seedM (ns : List Int) : Int := ns.foldl (fun s c => (s * 31 + c % 1000003) % 1000003) 17
theorem seedM_next {ns : List Int} {i : Nat} {x : Int} (h : ns[i]? = some x) : seedM (ns.take (i + 1)) = (seedM (ns.take i) * 31 + x % 1000003) % 1000003 := by
  unfold seedM
  rw [List.take_add_one, h, List.foldl_append]
  rfl
theorem seedM_bound (ns : List Int) : 0 ≤ seedM ns ∧ seedM ns < 1000003 := by
  unfold seedM
  suffices h : ∀ (l : List Int) (s : Int), 0 ≤ s ∧ s < 1000003 → 0 ≤ l.foldl (fun s c => (s * 31 + c % 1000003) % 1000003) s ∧ l.foldl (fun s c => (s * 31 + c % 1000003) % 1000003) s < 1000003 from h ns 17 (by omega)
  intro l
  induction l with
  | nil => intro s h; exact h
  | cons c r ih => intro s h; exact ih ((s * 31 + c % 1000003) % 1000003) (by omega)
def cellM (ns : List Int) (k : Nat) : Int := if k < ns.length then ns.getD k 0 else ((seedM ns + 7) * ((k : Int) + 3) * 69621) % 2147483647
abbrev sp__law_cell (K : PySem.W.Frag) : Sp := spR K (fun a : List Int × Nat => a.1.length ≤ 63 ∧ a.2 ≤ 1000) (fun a => [.l (vis a.1), .i (a.2 : Int)]) fun a => .i (cellM a.1 a.2)
theorem has__law_cell (T : Txt K mg) (h : At K mg "_law_cell" s__law_cell ["script", "k"]) : Has P w K mg base 1 "_law_cell" ["script", "k"] (sp__law_cell K) := by
  refine h.hasR sc__law_cell (fun _ => rfl) fun f cdv A outer s H a vs Q E hr hp hv hk => ?_
  obtain ⟨ns, k⟩ := a
  obtain ⟨hl, hk1⟩ := hp
  replace hl : ns.length ≤ 63 := hl
  replace hk1 : k ≤ 1000 := hk1
  rcases hv with _ | ⟨hs, _ | ⟨rfl, _ | _⟩⟩
  obtain ⟨p, rfl, hS⟩ := hs
  have hs : Is K H (.l (vis ns)) (.ref p) := ⟨p, rfl, hS⟩
  have sc := sc__law_cell
  refine ⟨_, (pss_cons (ps_if (pt_cmpR op_lt (pv 1) (pe_callB (cr_len_k (K := K)) (by rfl) T.b_len (by decide +kernel) (pa_cons (pv 0) pa_nil)) (nomark _)) (pss_one (ps_ret (pe_ix (ix_list_k (K := K)) (pv 0) (pv 1) (fun _ _ => rfl)))) pss_nil)
    (pss_cons (ps_set (i := 2) sc.nd rfl (Or.inl rfl) pe_int)
    (pss_cons (ps_for PassesOwn.never rfl (pi_list_k (K := K) (pv 0)) (pg_name (i := 3) sc.nd rfl (Or.inl rfl)) (pss_one (ps_set (i := 2) sc.nd rfl (Or.inl rfl) (pe_op op_mod (pe_callTy cr_int (by rfl) T.b_int (by decide +kernel) (pa_cons (pe_op op_add (pe_op op_mul (pv 2) pe_int) (pe_op op_mod (pe_callTy cr_int (by rfl) T.b_int (by decide +kernel) (pa_cons (pv 3) pa_nil)) pe_int)) pa_nil)) pe_int))))
    (pss_one (ps_ret (pe_op op_mod (pe_callTy cr_int (by rfl) T.b_int (by decide +kernel) (pa_cons (pe_op op_mul (pe_op op_mul (pe_op op_add (pv 2) pe_int) (pe_op op_add (pv 1) pe_int)) pe_int) pa_nil)) pe_int)))))), ?_⟩
  refine' a_when (K := K) ?g1 ?g2 ?g3
  case g1 => walk_at "et"
  case g2 =>
    intro hb H1 e1
    have hb' : k < ns.length := by simpa using hb
    replace hs := hs.mono e1
    refine' a_rete (K := K) ?g4 ?g5 e1 hk
    case g4 => walk_at "er"
    show Dd.i _ = Dd.i (if k < ns.length then _ else _)
    rw [if_pos hb']
    rfl
  case g3 =>
    intro hb H1 e1
    have hb' : ¬ k < ns.length := by simpa using hb
    refine' a_setv (K := K) ?g6 ?g7
    case g6 => walk_at "er"
    intro H2 e2
    refine b_forA (K := K) (a := p) (xs := vis ns) (er_v rfl) (ex_l (e1.trans e2) hS) (fun i σ' H' => ∃ y, σ' = [some (.ref p), some (.int (k : Int)), some (.int (seedM (ns.take i))), y] ∧ Ex H H') (fun H3 e3 => ⟨none, rfl, (e1.trans e2).trans e3⟩) (fun i σ' H' _ ⟨_, _, e⟩ => ex_l e hS) ?_ ?_
    · rintro i x σ' H' hx ⟨y, rfl, e⟩
      obtain ⟨n, hn, rfl⟩ : ∃ n, ns[i]? = some n ∧ V.int n = x := by
        rw [List.getElem?_map] at hx
        cases q : ns[i]? with
        | none => rw [q] at hx; cases hx
        | some n => rw [q] at hx; exact ⟨n, rfl, Option.some.inj hx⟩
      have hb := seedM_bound (ns.take i)
      refine' a_setv1 (K := K) ?g8 ?g9
      case g8 => walk_at "er"
      intro H4 e4
      refine ⟨some (.int n), ?_, e.trans e4⟩
      rw [seedM_next hn]
      rfl
    · rintro σ' H' ⟨y, rfl, e⟩
      rw [List.length_map, List.take_length]
      have hb := seedM_bound ns
      refine' a_rete (K := K) ?g10 ?g11 e hk
      case g10 => walk_at "er"
      show Dd.i _ = Dd.i (if k < ns.length then _ else _)
      rw [if_neg hb']
def rsM (x : Int) (sizes : List Int) (j : Nat) : Int := (sizes.take j).foldl (fun a b => a / b) x
theorem rsM_next {x b : Int} {sizes : List Int} {j : Nat} (h : sizes[j]? = some b) : rsM x sizes (j + 1) = rsM x sizes j / b := by
  unfold rsM
  rw [List.take_add_one, h, List.foldl_append]
  rfl
def sdM (s0 : Int) : Nat → Int
  | 0 => s0
  | i + 1 => (sdM s0 i * 48271 + 974711 * (i : Int) + 12345) % 2147483647
def twM (s : Int) : Int := (s * (s / 65537 + 3)) % 2147483629
def draw1 (x : Int) (sizes : List Int) : List Int := sizes.zipIdx.map fun p => rsM x sizes p.2 % p.1
def draw2 (s0 : Int) (sizes : List Int) : List Int := sizes.zipIdx.map fun p => twM (sdM s0 (p.2 + 1)) / 19 % p.1
end
end Mi

set_option maxHeartbeats 4000000
namespace Mi
open PySem PySem.Spec PyProof.Rows L2 Evl
local macro_rules | `(tactic| walk_at "side") => `(tactic| (first | assumption | omega | exact rfl | decide | (simp only [List.length_cons, List.length_nil, List.length_map, List.length_append, List.length_replicate] <;> omega)))
local macro_rules | `(tactic| walk_at "ro") => `(tactic| (first
  | with_reducible exact ro_I0
  | with_reducible exact ro_1018
  | with_reducible exact ro_neC
  | with_reducible exact ro_eqC
  | with_reducible exact ro_neI
  | with_reducible exact ro_eqI
  | with_reducible exact ro_neB
  | with_reducible exact ro_eqB
  | ((with_reducible apply ro_mod); (walk_at "side"))
  | ((with_reducible apply ro_div) <;> (walk_at "side"))
  | ((with_reducible apply ro_divW) <;> (walk_at "side"))
  | with_reducible exact ro_1012
  | with_reducible exact ro_1015
  | ((with_reducible apply ro_mulL) <;> (walk_at "side"))
  | ((with_reducible apply ro_mulR) <;> (walk_at "side"))
  | ((with_reducible apply ro_addC); (walk_at "side"))
  | ((with_reducible apply ro_ixC) <;> (walk_at "side"))
  | ((with_reducible apply ro_ixI) <;> (walk_at "side"))
  | ((with_reducible apply ro_ixIN) <;> (walk_at "side"))
  | ((with_reducible apply ro_ixT2) <;> (walk_at "side"))
  | ((with_reducible apply ro_ixG) <;> (walk_at "side"))
  | ((with_reducible apply ro_eq); exact rfl)
  | ((with_reducible apply ro_ne); exact rfl)
  | with_reducible exact ro_isN
  | with_reducible exact ro_notN
  | with_reducible exact ro_eqL
  | with_reducible exact ro_neL
  | with_reducible exact ro_eqU
  | ((with_reducible apply ro_cat); (walk_at "side"))
  | with_reducible exact ro_inLi
  | with_reducible exact ro_inNi
  | with_reducible exact ro_inUi
  | ((with_reducible apply ro_inL) <;> (walk_at "side"))
  | ((with_reducible apply ro_inN) <;> (walk_at "side"))
  | ((with_reducible apply ro_inU) <;> (walk_at "side"))))
local macro_rules | `(tactic| walk_at "rc") => `(tactic| (first
  | with_reducible exact rc_int
  | with_reducible exact rc_intB
  | with_reducible exact rc_max2
  | ((with_reducible apply rc_lenC); (walk_at "side"))
  | with_reducible exact rc_lenI
  | with_reducible exact rc_lenT
  | with_reducible exact rc_lenIN
  | with_reducible exact rc_lenTN
  | with_reducible exact rc_lenL
  | with_reducible exact rc_lenN
  | with_reducible exact rc_lenU
  | with_reducible exact rc_listL
  | with_reducible exact rc_listU
  | with_reducible exact rc_tupL
  | with_reducible exact rc_tupN
  | ((with_reducible apply rc_isi_int); decide +kernel)
  | ((with_reducible apply rc_isi_str); decide +kernel)
  | ((with_reducible apply rc_isi_bl); decide +kernel)
  | ((with_reducible apply rc_isi_non); decide +kernel)
  | ((with_reducible apply rc_isi_u); decide +kernel)
  | ((with_reducible apply rc_isi_l); decide +kernel)))
local macro_rules | `(tactic| walk_at "er") => `(tactic| (first
  | ((with_reducible apply er_var); (exact rfl); assumption)
  | ((with_reducible apply er_v); exact rfl)
  | with_reducible exact er_c
  | ((with_reducible apply er_pick); (walk_at "er"); (walk_at "er"); (walk_at "er"))
  | ((with_reducible apply er_op); (walk_at "er"); (walk_at "er"); (walk_at "ro"))
  | ((with_reducible apply er_cb); (walk_at "era"); (walk_at "rc"))
  | ((with_reducible apply er_lst'); (walk_at "era"); (exact rfl); (walk_at "side"))
  | ((with_reducible apply er_tup'); (walk_at "era"); (exact rfl); (walk_at "side"))
  | ((with_reducible apply er_notV); (walk_at "er"))
  | ((with_reducible apply er_andV); (walk_at "er"); (intro _; (walk_at "er")))
  | ((with_reducible apply er_orV); (walk_at "er"); (intro _; (walk_at "er")))
  | ((with_reducible apply er_ite); (walk_at "et"); (intro _; (walk_at "er")); (intro _; (walk_at "er")))))
local macro_rules | `(tactic| walk_at "era") => `(tactic| (first
  | with_reducible exact era_nil
  | ((with_reducible apply era_cons); (walk_at "er"); (walk_at "era"))))
local macro_rules | `(tactic| walk_at "et") => `(tactic| (first
  | ((with_reducible apply et_an); (walk_at "et"); (intro _; (walk_at "et")))
  | ((with_reducible apply et_orr); (walk_at "et"); (intro _; (walk_at "et")))
  | ((with_reducible apply et_nt); (walk_at "et"))
  | ((with_reducible apply et1); (walk_at "er"))
  | ((with_reducible apply et2); (walk_at "er"))))

section
variable {P : Program} {w : World} {K : PySem.W.Frag} {mg : Str → Option Value} {base : Heap}

abbrev s__law_digits : Stmt := topS 35
theorem sc__law_digits : FnScope ["value", "sizes", "line", "rest", "size", "seed", "k", "twice"] ["value", "sizes"] (defScope s__law_digits) := ⟨rfl, rfl, rfl, by decide +kernel, rfl, by decide +kernel, by decide +kernel⟩

def digM (x : Int) (sizes : List Int) : List Int := if 1000000000000000000 ≤ x then draw1 (x - 1000000000000000000) sizes else draw2 (x % 2147483629) sizes
theorem digM_len (x : Int) (sizes : List Int) : (digM x sizes).length = sizes.length := by
  unfold digM draw1 draw2
  split <;> simp
theorem digM_bd {x : Int} {sizes : List Int} (hs : ∀ s ∈ sizes, 0 < s) {i : Nat} (h : i < sizes.length) : 0 ≤ (digM x sizes).getD i 0 ∧ (digM x sizes).getD i 0 < sizes.getD i 0 := by
  have hb : 0 < sizes[i] := hs _ (List.getElem_mem h)
  have e : sizes[i]? = some sizes[i] := List.getElem?_eq_getElem h
  rw [List.getD_eq_getElem?_getD, List.getD_eq_getElem?_getD, e]
  unfold digM
  split
  · unfold draw1
    rw [List.getElem?_map, zipIdx_at e]
    exact ⟨Int.emod_nonneg _ (by omega), Int.emod_lt_of_pos _ hb⟩
  · unfold draw2
    rw [List.getElem?_map, zipIdx_at e]
    exact ⟨Int.emod_nonneg _ (by omega), Int.emod_lt_of_pos _ hb⟩
abbrev sp__law_digits (K : PySem.W.Frag) : Sp := spR K (fun a : Int × List Int => a.2.length ≤ 1000 ∧ ∀ s ∈ a.2, 0 < s ∧ s < 1000000) (fun a => [.i a.1, .l (vis a.2)]) fun a => .n (vis (digM a.1 a.2))
theorem has__law_digits (T : Txt K mg) (h : At K mg "_law_digits" s__law_digits ["value", "sizes"]) : Has P w K mg base 1 "_law_digits" ["value", "sizes"] (sp__law_digits K) := by
  refine h.hasR sc__law_digits (fun _ => rfl) fun f cdv A outer s H a vs Q E hr hp hv hk => ?_
  obtain ⟨x, sizes⟩ := a
  obtain ⟨hz, hpos⟩ := hp
  replace hz : sizes.length ≤ 1000 := hz
  replace hpos : ∀ s ∈ sizes, 0 < s ∧ s < 1000000 := hpos
  rcases hv with _ | ⟨rfl, _ | ⟨⟨pz, rfl, hZ⟩, _ | _⟩⟩
  have hzz : Is K H (.l (vis sizes)) (.ref pz) := ⟨pz, rfl, hZ⟩
  have sc := sc__law_digits
  refine ⟨_, (pss_cons (ps_set (i := 2) sc.nd rfl (Or.inl rfl) (pe_lst pa_nil))
    (pss_cons (ps_set (i := 3) sc.nd rfl (Or.inl rfl) (pe_callTy cr_int (by rfl) T.b_int (by decide +kernel) (pa_cons (pv 0) pa_nil)))
    (pss_cons (ps_if (pt_cmpR op_ge (pv 3) (pe_op op_pow pe_int pe_int) (nomark _)) (pss_cons (ps_set (i := 3) sc.nd rfl (Or.inl rfl) (pe_op op_sub (pv 3) (pe_op op_pow pe_int pe_int)))
    (pss_cons (ps_for PassesOwn.never rfl (pi_list_k (K := K) (pv 1)) (pg_name (i := 4) sc.nd rfl (Or.inl rfl)) (pss_cons (ps_expr (pe_bm_k (K := K) PySem.F.plainAttrs_list PySem.F.slot_list_append PySem.F.type_list_append mt_append (pv 2) (pa_cons (pe_op op_mod (pe_callTy cr_int (by rfl) T.b_int (by decide +kernel) (pa_cons (pv 3) pa_nil)) (pv 4)) pa_nil)))
    (pss_one (ps_set (i := 3) sc.nd rfl (Or.inl rfl) (pe_op op_fdiv (pe_callTy cr_int (by rfl) T.b_int (by decide +kernel) (pa_cons (pv 3) pa_nil)) (pv 4))))))
    (pss_one (ps_ret (pv 2))))) pss_nil)
    (pss_cons (ps_set (i := 5) sc.nd rfl (Or.inl rfl) (pe_op op_mod (pe_callTy cr_int (by rfl) T.b_int (by decide +kernel) (pa_cons (pv 3) pa_nil)) pe_int))
    (pss_cons (ps_for PassesOwn.never rfl (pi_range1 (by rfl) T.b_range (pa_cons (pe_callB (cr_len_k (K := K)) (by rfl) T.b_len (by decide +kernel) (pa_cons (pv 1) pa_nil)) pa_nil)) (pg_name (i := 6) sc.nd rfl (Or.inl rfl)) (pss_cons (ps_set (i := 5) sc.nd rfl (Or.inl rfl) (pe_op op_mod (pe_callTy cr_int (by rfl) T.b_int (by decide +kernel) (pa_cons (pe_op op_add (pe_op op_add (pe_op op_mul (pv 5) pe_int) (pe_op op_mul pe_int (pv 6))) pe_int) pa_nil)) pe_int))
    (pss_cons (ps_set (i := 7) sc.nd rfl (Or.inl rfl) (pe_op op_mod (pe_callTy cr_int (by rfl) T.b_int (by decide +kernel) (pa_cons (pe_op op_mul (pv 5) (pe_op op_add (pe_op op_fdiv (pv 5) pe_int) pe_int)) pa_nil)) pe_int))
    (pss_one (ps_expr (pe_bm_k (K := K) PySem.F.plainAttrs_list PySem.F.slot_list_append PySem.F.type_list_append mt_append (pv 2) (pa_cons (pe_op op_mod (pe_op op_fdiv (pv 7) pe_int) (pe_ix (ix_list_k (K := K)) (pv 1) (pv 6) (fun _ _ => rfl))) pa_nil)))))))
    (pss_one (ps_ret (pv 2)))))))), ?_⟩
  refine a_new fun o H1 ho e1 h1 => ?_
  refine' a_setv (K := K) (x := .int x) ?g1 ?g2
  case g1 => walk_at "er"
  intro H2 e2
  have h2 := e2 o _ h1
  refine' a_when (K := K) ?g3 ?g4 ?g5
  case g3 => walk_at "et"
  case g4 =>
    intro hb H3 e3
    have hb' : 1000000000000000000 ≤ x := by simpa using hb
    refine' a_setv (K := K) ?g6 ?g7
    case g6 => walk_at "er"
    intro H4 e4
    have h4 := e4 o _ (e3 o _ h2)
    have E4 : Ex H H4 := ((e1.trans e2).trans e3).trans e4
    refine b_forA (K := K) (a := pz) (xs := vis sizes) (er_v rfl) (ex_l E4 hZ) (fun i σ' H' => ∃ y, σ' = [some (.int x), some (.ref pz), some (.ref o), some (.int (rsM (x - 1000000000000000000) sizes i)), y, none, none, none] ∧ Ex H H' ∧ H' o = some (.lst (vis ((sizes.zipIdx.take i).map fun p => rsM (x - 1000000000000000000) sizes p.2 % p.1)))) (fun H5 e5 => ⟨none, rfl, E4.trans e5, e5 o _ h4⟩) (fun i σ' H' _ ⟨_, _, e, _⟩ => ex_l e hZ) ?_ ?_
    · rintro i y0 σ' H' hx ⟨y, rfl, e, hO⟩
      obtain ⟨n, hn, rfl⟩ := vis_at hx
      have hn2 := hpos n (List.mem_of_getElem? hn)
      have hn3 : 0 < n := hn2.1
      have hi : i < sizes.length := (List.getElem?_eq_some_iff.mp hn).1
      refine' b_app (K := K) hO (er_v rfl) ?g8 (by rw [List.length_map, List.length_map, List.length_take]; omega) ?g9
      case g8 => walk_at "er"
      intro H5 e5
      have E5 : Ex H (upd H5 o (.lst (vis ((sizes.zipIdx.take i).map fun p => rsM (x - 1000000000000000000) sizes p.2 % p.1) ++ [.int (rsM (x - 1000000000000000000) sizes i % n)]))) := Ex.mut (e.trans e5) ho
      refine' a_setv1 (K := K) ?g10 ?g11
      case g10 => walk_at "er"
      intro H6 e6
      refine ⟨some (.int n), ?_, E5.trans e6, ?_⟩
      · rw [rsM_next hn]
        rfl
      · rw [e6 o _ upd_same, map_take_next (zipIdx_at hn), vis_app]
    · rintro σ' H' ⟨y, rfl, e, hO⟩
      refine a_rete (K := K) (er_var (K := K) (d := .n (vis (digM x sizes))) rfl ⟨o, rfl, ?_⟩) rfl e hk
      rw [hO, List.length_map, List.take_of_length_le (by rw [List.length_zipIdx]; exact Nat.le_refl _)]
      unfold digM
      rw [if_pos hb']
      rfl
  case g5 =>
    intro hb H3 e3
    have hb' : ¬ 1000000000000000000 ≤ x := by simpa using hb
    refine' a_setv (K := K) ?g12 ?g13
    case g12 => walk_at "er"
    intro H4 e4
    have h4 := e4 o _ (e3 o _ h2)
    have E4 : Ex H H4 := ((e1.trans e2).trans e3).trans e4
    have hz4 := hzz.mono E4
    refine b_forR1 (K := K) (n := sizes.length) ?_ (by omega) (fun i σ' H' => ∃ y1 y2, σ' = [some (.int x), some (.ref pz), some (.ref o), some (.int x), none, some (.int (sdM (x % 2147483629) i)), y1, y2] ∧ Ex H H' ∧ H' o = some (.lst (vis ((sizes.zipIdx.take i).map fun p => twM (sdM (x % 2147483629) (p.2 + 1)) / 19 % p.1)))) (fun H5 e5 => ⟨none, none, rfl, E4.trans e5, e5 o _ h4⟩) ?_ ?_
    · walk_at "era"
    · rintro i σ' H' hi ⟨y1, y2, rfl, e, hO⟩
      have hn : sizes[i]? = some sizes[i] := List.getElem?_eq_getElem hi
      have hn2 := hpos sizes[i] (List.getElem_mem hi)
      have hg : sizes.getD i 0 = sizes[i] := by rw [List.getD_eq_getElem?_getD, hn]; rfl
      have hn3 : 0 < sizes.getD ((i : Nat) : Int).toNat 0 := by rw [Int.toNat_natCast, hg]; exact hn2.1
      have hzi := hzz.mono e
      generalize hsd : sdM (x % 2147483629) i = sd
      refine' a_setv (K := K) ?g14 ?g15
      case g14 => walk_at "er"
      intro H5 e5
      have hsd1 : sdM (x % 2147483629) (i + 1) = (sd * 48271 + 974711 * (i : Int) + 12345) % 2147483647 := by rw [← hsd]; rfl
      have hb1 : 0 ≤ (sd * 48271 + 974711 * (i : Int) + 12345) % 2147483647 := Int.emod_nonneg _ (by decide)
      have hb2 : (sd * 48271 + 974711 * (i : Int) + 12345) % 2147483647 < 2147483647 := Int.emod_lt_of_pos _ (by decide)
      generalize hsd2 : (sd * 48271 + 974711 * (i : Int) + 12345) % 2147483647 = sd2 at hsd1 hb1 hb2
      refine' a_setv (K := K) ?g16 ?g17
      case g16 => walk_at "er"
      intro H6 e6
      replace hzi := (hzi.mono e5).mono e6
      refine' a_app (K := K) (e6 o _ (e5 o _ hO)) (er_v rfl) ?g18 (by rw [List.length_map, List.length_map, List.length_take]; omega) ?g19
      case g18 => walk_at "er"
      intro H7 e7
      refine ⟨some (.int i), some (.int (twM sd2)), ?_, Ex.mut (((e.trans e5).trans e6).trans e7) ho, ?_⟩
      · rw [hsd1]
        rfl
      · rw [upd_same, map_take_next (zipIdx_at hn), vis_app, hsd1, Int.toNat_natCast, hg]
        rfl
    · rintro σ' H' ⟨y1, y2, rfl, e, hO⟩
      refine a_rete (K := K) (er_var (K := K) (d := .n (vis (digM x sizes))) rfl ⟨o, rfl, ?_⟩) rfl e hk
      rw [hO, List.take_of_length_le (by rw [List.length_zipIdx]; exact Nat.le_refl _)]
      unfold digM
      rw [if_neg hb']
      rfl
def pressM (a b : List Nat) : List Nat := (a.zip b).map fun p => if p.2 = 45 then p.1 else p.2
theorem pressM_len {a b : List Nat} (h : a.length = b.length) : (pressM a b).length = a.length := by
  unfold pressM
  rw [List.length_map, List.length_zip]
  omega
theorem get_getD {l : List Nat} {k : Nat} (h : k < l.length) : l[k]? = some (l.getD k 0) := by
  rw [List.getD_eq_getElem?_getD, List.getElem?_eq_getElem h]
  rfl
theorem zip_range {α : Type} {low high : List Nat} (h : low.length = high.length) (f : Nat × Nat → α) : (low.zip high).map f = (List.range low.length).map fun k => f (low.getD k 0, high.getD k 0) := by
  refine List.ext_getElem (by simp; omega) fun i h1 h2 => ?_
  simp at h1 h2 ⊢
  congr 1
  rw [List.getElem?_eq_getElem (by omega), List.getElem?_eq_getElem (by omega)]
  rfl
def freeM (a b : List Nat) : List Nat := (a.zip b).map fun p => if p.2 = 45 then p.1 else 45
theorem freeM_len {a b : List Nat} (h : a.length = b.length) : (freeM a b).length = a.length := by
  unfold freeM
  rw [List.length_map, List.length_zip]
  omega
end
end Mi

set_option maxHeartbeats 4000000
namespace Mi
open PySem PySem.Spec PyProof.Rows L2 Evl
local macro_rules | `(tactic| walk_at "side") => `(tactic| (first | assumption | omega | exact rfl | decide | (simp only [List.length_cons, List.length_nil, List.length_map, List.length_append, List.length_replicate] <;> omega)))
local macro_rules | `(tactic| walk_at "ro") => `(tactic| (first
  | with_reducible exact ro_I0
  | with_reducible exact ro_1018
  | with_reducible exact ro_neC
  | with_reducible exact ro_eqC
  | with_reducible exact ro_neI
  | with_reducible exact ro_eqI
  | with_reducible exact ro_neB
  | with_reducible exact ro_eqB
  | ((with_reducible apply ro_mod); (walk_at "side"))
  | ((with_reducible apply ro_div) <;> (walk_at "side"))
  | ((with_reducible apply ro_divW) <;> (walk_at "side"))
  | with_reducible exact ro_1012
  | with_reducible exact ro_1015
  | ((with_reducible apply ro_mulL) <;> (walk_at "side"))
  | ((with_reducible apply ro_mulR) <;> (walk_at "side"))
  | ((with_reducible apply ro_addC); (walk_at "side"))
  | ((with_reducible apply ro_ixC) <;> (walk_at "side"))
  | ((with_reducible apply ro_ixI) <;> (walk_at "side"))
  | ((with_reducible apply ro_ixIN) <;> (walk_at "side"))
  | ((with_reducible apply ro_ixT2) <;> (walk_at "side"))
  | ((with_reducible apply ro_ixG) <;> (walk_at "side"))
  | ((with_reducible apply ro_eq); exact rfl)
  | ((with_reducible apply ro_ne); exact rfl)
  | with_reducible exact ro_isN
  | with_reducible exact ro_notN
  | with_reducible exact ro_eqL
  | with_reducible exact ro_neL
  | with_reducible exact ro_eqU
  | ((with_reducible apply ro_cat); (walk_at "side"))
  | with_reducible exact ro_inLi
  | with_reducible exact ro_inNi
  | with_reducible exact ro_inUi
  | ((with_reducible apply ro_inL) <;> (walk_at "side"))
  | ((with_reducible apply ro_inN) <;> (walk_at "side"))
  | ((with_reducible apply ro_inU) <;> (walk_at "side"))))
local macro_rules | `(tactic| walk_at "rc") => `(tactic| (first
  | with_reducible exact rc_int
  | with_reducible exact rc_intB
  | with_reducible exact rc_max2
  | ((with_reducible apply rc_lenC); (walk_at "side"))
  | with_reducible exact rc_lenI
  | with_reducible exact rc_lenT
  | with_reducible exact rc_lenIN
  | with_reducible exact rc_lenTN
  | with_reducible exact rc_lenL
  | with_reducible exact rc_lenN
  | with_reducible exact rc_lenU
  | with_reducible exact rc_listL
  | with_reducible exact rc_listU
  | with_reducible exact rc_tupL
  | with_reducible exact rc_tupN
  | ((with_reducible apply rc_isi_int); decide +kernel)
  | ((with_reducible apply rc_isi_str); decide +kernel)
  | ((with_reducible apply rc_isi_bl); decide +kernel)
  | ((with_reducible apply rc_isi_non); decide +kernel)
  | ((with_reducible apply rc_isi_u); decide +kernel)
  | ((with_reducible apply rc_isi_l); decide +kernel)))
local macro_rules | `(tactic| walk_at "er") => `(tactic| (first
  | ((with_reducible apply er_var); (exact rfl); assumption)
  | ((with_reducible apply er_v); exact rfl)
  | with_reducible exact er_c
  | ((with_reducible apply er_pick); (walk_at "er"); (walk_at "er"); (walk_at "er"))
  | ((with_reducible apply er_op); (walk_at "er"); (walk_at "er"); (walk_at "ro"))
  | ((with_reducible apply er_cb); (walk_at "era"); (walk_at "rc"))
  | ((with_reducible apply er_lst'); (walk_at "era"); (exact rfl); (walk_at "side"))
  | ((with_reducible apply er_tup'); (walk_at "era"); (exact rfl); (walk_at "side"))
  | ((with_reducible apply er_notV); (walk_at "er"))
  | ((with_reducible apply er_andV); (walk_at "er"); (intro _; (walk_at "er")))
  | ((with_reducible apply er_orV); (walk_at "er"); (intro _; (walk_at "er")))
  | ((with_reducible apply er_ite); (walk_at "et"); (intro _; (walk_at "er")); (intro _; (walk_at "er")))))
local macro_rules | `(tactic| walk_at "era") => `(tactic| (first
  | with_reducible exact era_nil
  | ((with_reducible apply era_cons); (walk_at "er"); (walk_at "era"))))
local macro_rules | `(tactic| walk_at "et") => `(tactic| (first
  | ((with_reducible apply et_an); (walk_at "et"); (intro _; (walk_at "et")))
  | ((with_reducible apply et_orr); (walk_at "et"); (intro _; (walk_at "et")))
  | ((with_reducible apply et_nt); (walk_at "et"))
  | ((with_reducible apply et1); (walk_at "er"))
  | ((with_reducible apply et2); (walk_at "er"))))

section
variable {P : Program} {w : World} {K : PySem.W.Frag} {mg : Str → Option Value} {base : Heap}

abbrev sp_peeled (K : PySem.W.Frag) : Sp := spR K (fun a : List Nat × List Nat => a.1.length ≤ 1000) (fun a => [.s (S a.1), .s (S a.2)]) fun a => .s (S (freeM a.1 a.2))
abbrev s_is_layer : Stmt := topS 17
theorem sc_is_layer : FnScope ["value", "sign"] ["value"] (defScope s_is_layer) := ⟨rfl, rfl, rfl, by decide +kernel, rfl, by decide +kernel, by decide +kernel⟩

def signOk (c : Nat) : Bool := decide (c = 45) || decide (c ∈ alls)
def layerOk (l : List Nat) : Bool := (decide (1 ≤ l.length) && decide (l.length ≤ 30)) && l.all signOk
abbrev sp_is_layer (K : PySem.W.Frag) : Sp := spR K (fun a : List Nat => a.length ≤ 1000) (fun a => [.s (S a)]) fun a => .b (layerOk a)
theorem has_is_layer (T : Txt K mg) (h : At K mg "is_layer" s_is_layer ["value"]) : Has P w K mg base 1 "is_layer" ["value"] (sp_is_layer K) := by
  refine h.hasR sc_is_layer (fun _ => rfl) fun f cdv A outer s H a vs Q E hr hp hv hk => ?_
  replace hp : a.length ≤ 1000 := hp
  rcases hv with _ | ⟨rfl, _ | _⟩
  have sc := sc_is_layer
  obtain ⟨_, gc_DASH⟩ := T.g_DASH
  obtain ⟨_, gc_MARKS⟩ := T.g_MARKS
  obtain ⟨_, gc_LONGEST⟩ := T.g_LONGEST
  refine ⟨_, (pss_cons (ps_if (pt_not (pt_val (pe_callB (cr_isi_k (K := K)) (by rfl) T.b_isinstance (by decide +kernel) (pa_cons (pv 0) (pa_cons (pe_bltn (v := .ty "str") (by rfl) T.b_str (by decide +kernel) rfl) pa_nil))))) (pss_one (ps_ret pe_bl)) pss_nil)
    (pss_cons (ps_if (pt_not (pt_chain op_le op_le pe_int (pe_callB cr_lenStr (by rfl) T.b_len (by decide +kernel) (pa_cons (pv 0) pa_nil)) (pe_glob (v := .int 30) rfl gc_LONGEST ⟨_, rfl⟩))) (pss_one (ps_ret pe_bl)) pss_nil)
    (pss_one (ps_ret (pe_callB (cr_all_k (K := K)) (by rfl) T.b_all (by decide +kernel) (pa_cons (pe_lc (own := [("sign", 1)]) (g := gName 1) (by rfl) sc.nd (pi_str (pv 0)) (blkOk_by (N := ["value", "sign"]) (sc := defScope s_is_layer) (own := [("sign", 1)]) (by decide +kernel)) (fun _ _ _ _ _ => (pg_name (i := 1) sc.nd rfl (Or.inl rfl))) (fun _ _ _ _ _ => pts_nil) (fun _ _ _ _ _ => (pe_or (pe_cmpR op_eq (pv 1) (pe_glob (v := .str (S [45])) rfl gc_DASH ⟨_, rfl⟩) (nomark _)) (pe_one (pe_cmpR op_inS (pv 1) (pe_glob (v := .str (S alls)) rfl gc_MARKS ⟨_, rfl⟩) rfl))))) pa_nil)))))), ?_⟩
  refine' a_when (K := K) (b := !true) (et_nt (et2 (er_cb (era_cons (er_v rfl) (era_cons er_c era_nil)) (rc_isi_str (by decide +kernel))))) ?g1 ?g2
  case g1 =>
    intro hb
    cases hb
  case g2 =>
    intro _ H1 e1
    refine' a_when (K := K) (b := !(decide ((1 : Int) ≤ (a.length : Int)) && decide ((a.length : Int) ≤ 30))) (et_nt (et1 (er_chain er_c (er_cb (era_cons (er_v rfl) era_nil) (rc_lenC (z := a) (by omega))) ro_I0 (fun _ => er_c) fun _ => ro_I0))) ?g3 ?g4
    case g3 =>
      intro hb H2 e2
      refine a_rete (K := K) er_c ?_ (e1.trans e2) hk
      have e0 : layerOk a = false := by
        unfold layerOk
        have q : (decide (1 ≤ a.length) && decide (a.length ≤ 30)) = false := by
          simp at hb ⊢
          omega
        rw [q]
        rfl
      show Dd.b false = Dd.b (layerOk a)
      rw [e0]
    case g4 =>
      intro hb H2 e2
      refine' a_rete (K := K) (er_cb (era_cons (Er.to (c_lcS' (K := K) (z := a) (vs := [1]) (fun c => V.bl (signOk c)) (er_v rfl) (by omega) (fun _ => rfl) ?g5) ?g6) era_nil) rc_allBN) ?g7 (e1.trans e2) hk
      case g5 =>
        intro i c H3 e3 hi
        refine Er.to (er_orV (a := decide ([c] = [45])) (b := decide (c ∈ alls)) (er_op (er_v rfl) er_c ro_eqC) fun _ => er_op (d1 := .s (S [c])) (d2 := .s (S alls)) (er_v rfl) er_c (ro_inS (c := c))) ?_
        show Dd.b _ = Dd.b (signOk c)
        unfold signOk
        simp
      case g6 =>
        show Dd.n (a.map (V.bl ∘ signOk)) = Dd.n ((a.map signOk).map V.bl)
        rw [List.map_map]
      show Dd.b ((a.map signOk).all id) = Dd.b (layerOk a)
      unfold layerOk
      have q : (decide (1 ≤ a.length) && decide (a.length ≤ 30)) = true := by
        simp at hb ⊢
        omega
      rw [q, List.all_map]
      rfl
end
end Mi

set_option maxHeartbeats 4000000
namespace Mi
open PySem PySem.Spec PyProof.Rows L2 Evl
local macro_rules | `(tactic| walk_at "side") => `(tactic| (first | assumption | omega | exact rfl | decide | (simp only [List.length_cons, List.length_nil, List.length_map, List.length_append, List.length_replicate] <;> omega)))
local macro_rules | `(tactic| walk_at "ro") => `(tactic| (first
  | with_reducible exact ro_I0
  | with_reducible exact ro_1018
  | with_reducible exact ro_neC
  | with_reducible exact ro_eqC
  | with_reducible exact ro_neI
  | with_reducible exact ro_eqI
  | with_reducible exact ro_neB
  | with_reducible exact ro_eqB
  | ((with_reducible apply ro_mod); (walk_at "side"))
  | ((with_reducible apply ro_div) <;> (walk_at "side"))
  | ((with_reducible apply ro_divW) <;> (walk_at "side"))
  | with_reducible exact ro_1012
  | with_reducible exact ro_1015
  | ((with_reducible apply ro_mulL) <;> (walk_at "side"))
  | ((with_reducible apply ro_mulR) <;> (walk_at "side"))
  | ((with_reducible apply ro_addC); (walk_at "side"))
  | ((with_reducible apply ro_ixC) <;> (walk_at "side"))
  | ((with_reducible apply ro_ixI) <;> (walk_at "side"))
  | ((with_reducible apply ro_ixIN) <;> (walk_at "side"))
  | ((with_reducible apply ro_ixT2) <;> (walk_at "side"))
  | ((with_reducible apply ro_ixG) <;> (walk_at "side"))
  | ((with_reducible apply ro_eq); exact rfl)
  | ((with_reducible apply ro_ne); exact rfl)
  | with_reducible exact ro_isN
  | with_reducible exact ro_notN
  | with_reducible exact ro_eqL
  | with_reducible exact ro_neL
  | with_reducible exact ro_eqU
  | ((with_reducible apply ro_cat); (walk_at "side"))
  | with_reducible exact ro_inLi
  | with_reducible exact ro_inNi
  | with_reducible exact ro_inUi
  | ((with_reducible apply ro_inL) <;> (walk_at "side"))
  | ((with_reducible apply ro_inN) <;> (walk_at "side"))
  | ((with_reducible apply ro_inU) <;> (walk_at "side"))))
local macro_rules | `(tactic| walk_at "rc") => `(tactic| (first
  | with_reducible exact rc_int
  | with_reducible exact rc_intB
  | with_reducible exact rc_max2
  | ((with_reducible apply rc_lenC); (walk_at "side"))
  | with_reducible exact rc_lenI
  | with_reducible exact rc_lenT
  | with_reducible exact rc_lenIN
  | with_reducible exact rc_lenTN
  | with_reducible exact rc_lenL
  | with_reducible exact rc_lenN
  | with_reducible exact rc_lenU
  | with_reducible exact rc_listL
  | with_reducible exact rc_listU
  | with_reducible exact rc_tupL
  | with_reducible exact rc_tupN
  | ((with_reducible apply rc_isi_int); decide +kernel)
  | ((with_reducible apply rc_isi_str); decide +kernel)
  | ((with_reducible apply rc_isi_bl); decide +kernel)
  | ((with_reducible apply rc_isi_non); decide +kernel)
  | ((with_reducible apply rc_isi_u); decide +kernel)
  | ((with_reducible apply rc_isi_l); decide +kernel)))
local macro_rules | `(tactic| walk_at "er") => `(tactic| (first
  | ((with_reducible apply er_var); (exact rfl); assumption)
  | ((with_reducible apply er_v); exact rfl)
  | with_reducible exact er_c
  | ((with_reducible apply er_pick); (walk_at "er"); (walk_at "er"); (walk_at "er"))
  | ((with_reducible apply er_op); (walk_at "er"); (walk_at "er"); (walk_at "ro"))
  | ((with_reducible apply er_cb); (walk_at "era"); (walk_at "rc"))
  | ((with_reducible apply er_lst'); (walk_at "era"); (exact rfl); (walk_at "side"))
  | ((with_reducible apply er_tup'); (walk_at "era"); (exact rfl); (walk_at "side"))
  | ((with_reducible apply er_notV); (walk_at "er"))
  | ((with_reducible apply er_andV); (walk_at "er"); (intro _; (walk_at "er")))
  | ((with_reducible apply er_orV); (walk_at "er"); (intro _; (walk_at "er")))
  | ((with_reducible apply er_ite); (walk_at "et"); (intro _; (walk_at "er")); (intro _; (walk_at "er")))))
local macro_rules | `(tactic| walk_at "era") => `(tactic| (first
  | with_reducible exact era_nil
  | ((with_reducible apply era_cons); (walk_at "er"); (walk_at "era"))))
local macro_rules | `(tactic| walk_at "et") => `(tactic| (first
  | ((with_reducible apply et_an); (walk_at "et"); (intro _; (walk_at "et")))
  | ((with_reducible apply et_orr); (walk_at "et"); (intro _; (walk_at "et")))
  | ((with_reducible apply et_nt); (walk_at "et"))
  | ((with_reducible apply et1); (walk_at "er"))
  | ((with_reducible apply et2); (walk_at "er"))))

section
variable {P : Program} {w : World} {K : PySem.W.Frag} {mg : Str → Option Value} {base : Heap}

abbrev s_cells_of : Stmt := topS 18
theorem sc_cells_of : FnScope ["one", "cell", "sign"] ["one"] (defScope s_cells_of) := ⟨rfl, rfl, rfl, by decide +kernel, rfl, by decide +kernel, by decide +kernel⟩

def cellsM (a : List Nat) : List Int := (a.zipIdx.filter fun p => !decide (p.1 = 45)).map fun p => ((p.2 : Nat) : Int)
abbrev sp_cells (K : PySem.W.Frag) : Sp := spR K (fun a : List Nat => a.length ≤ 1000) (fun a => [.s (S a)]) fun a => .u (vis (cellsM a))
theorem has_cells_of (T : Txt K mg) (h : At K mg "cells_of" s_cells_of ["one"]) : Has P w K mg base 1 "cells_of" ["one"] (sp_cells K) := by
  refine h.hasR sc_cells_of (fun _ => rfl) fun f cdv A outer s H a vs Q E hr hp hv hk => ?_
  rcases hv with _ | ⟨rfl, _ | _⟩
  have sc := sc_cells_of
  obtain ⟨_, gc_DASH⟩ := T.g_DASH
  replace hp : a.length ≤ 1000 := hp
  refine ⟨_, (pss_one (ps_ret (pe_callTy (cr_tuple_k (K := K)) (by rfl) T.b_tuple (by decide +kernel) (pa_cons (pe_lc (own := [("cell", 1), ("sign", 2)]) (g := gTup K 2 (gCons (gName 1) (gCons (gName 2) gNil))) (by rfl) sc.nd (pi_enumS (by rfl) T.b_enumerate (pa_cons (pv 0) pa_nil)) (blkOk_by (N := ["one", "cell", "sign"]) (sc := defScope s_cells_of) (own := [("cell", 1), ("sign", 2)]) (by decide +kernel)) (fun _ _ _ _ _ => (pg_tup rfl (pgs_cons (pg_name (i := 1) sc.nd rfl (Or.inl rfl)) (pgs_cons (pg_name (i := 2) sc.nd rfl (Or.inl rfl)) pgs_nil)))) (fun _ _ _ _ _ => (pts_one (pt_cmpR op_ne (pv 2) (pe_glob (v := .str (S [45])) rfl gc_DASH ⟨_, rfl⟩) (nomark _)))) (fun _ _ _ _ _ => (pv 1))) pa_nil)))), ?_⟩
  refine' a_rete (K := K) ?g1 rfl (Ex.refl H) hk
  refine er_cb (K := K) (ds := [.n (vis (cellsM a))]) (era_cons (Er.to (c_lcE (K := K) (z := a) (vs := [1, 2]) (fun p => !decide (p.1 = 45)) (fun p => .int ((p.2 : Nat) : Int)) ?g2 (by omega) (fun _ _ => rfl) ?g3 ?g4) ?g5) era_nil) rc_tupN
  case g2 => walk_at "era"
  case g3 =>
    intro i c H1 e h1
    refine' Et.to (K := K) ?g6 ?g7
    case g6 => walk_at "et"
    simp
  case g4 =>
    intro i c H1 e h1 _
    walk_at "er"
  case g5 => rw [vis, cellsM, List.map_map]; rfl

abbrev s_is_name : Stmt := topS 22
theorem sc_is_name : FnScope ["value", "sign"] ["value"] (defScope s_is_name) := ⟨rfl, rfl, rfl, by decide +kernel, rfl, by decide +kernel, by decide +kernel⟩

def nameSign (c : Nat) : Bool := decide (c ∈ letters) || decide (c ∈ digits)
def nameOk (l : List Nat) : Bool := (decide (1 ≤ l.length) && decide (l.length ≤ 8)) && (decide (l.getD 0 0 ∈ letters) && l.all nameSign)
abbrev sp_is_name (K : PySem.W.Frag) : Sp := spR K (fun a : List Nat => a.length ≤ 1000) (fun a => [.s (S a)]) fun a => .b (nameOk a)
theorem has_is_name (T : Txt K mg) (h : At K mg "is_name" s_is_name ["value"]) : Has P w K mg base 1 "is_name" ["value"] (sp_is_name K) := by
  refine h.hasR sc_is_name (fun _ => rfl) fun f cdv A outer s H a vs Q E hr hp hv hk => ?_
  replace hp : a.length ≤ 1000 := hp
  rcases hv with _ | ⟨rfl, _ | _⟩
  have sc := sc_is_name
  obtain ⟨_, gc_LETTERS⟩ := T.g_LETTERS
  obtain ⟨_, gc_DIGITS⟩ := T.g_DIGITS
  obtain ⟨_, gc_LONGEST_NAME⟩ := T.g_LONGEST_NAME
  refine ⟨_, (pss_cons (ps_if (pt_not (pt_val (pe_callB (cr_isi_k (K := K)) (by rfl) T.b_isinstance (by decide +kernel) (pa_cons (pv 0) (pa_cons (pe_bltn (v := .ty "str") (by rfl) T.b_str (by decide +kernel) rfl) pa_nil))))) (pss_one (ps_ret pe_bl)) pss_nil)
    (pss_cons (ps_if (pt_not (pt_chain op_le op_le pe_int (pe_callB cr_lenStr (by rfl) T.b_len (by decide +kernel) (pa_cons (pv 0) pa_nil)) (pe_glob (v := .int 8) rfl gc_LONGEST_NAME ⟨_, rfl⟩))) (pss_one (ps_ret pe_bl)) pss_nil)
    (pss_one (ps_ret (pe_and (pe_cmpR op_inS (pe_ix ix_str (pv 0) pe_int (fun _ _ => rfl)) (pe_glob (v := .str (S letters)) rfl gc_LETTERS ⟨_, rfl⟩) rfl) (pe_one (pe_callB (cr_all_k (K := K)) (by rfl) T.b_all (by decide +kernel) (pa_cons (pe_lc (own := [("sign", 1)]) (g := gName 1) (by rfl) sc.nd (pi_str (pv 0)) (blkOk_by (N := ["value", "sign"]) (sc := defScope s_is_name) (own := [("sign", 1)]) (by decide +kernel)) (fun _ _ _ _ _ => (pg_name (i := 1) sc.nd rfl (Or.inl rfl))) (fun _ _ _ _ _ => pts_nil) (fun _ _ _ _ _ => (pe_or (pe_cmpR op_inS (pv 1) (pe_glob (v := .str (S letters)) rfl gc_LETTERS ⟨_, rfl⟩) rfl) (pe_one (pe_cmpR op_inS (pv 1) (pe_glob (v := .str (S digits)) rfl gc_DIGITS ⟨_, rfl⟩) rfl))))) pa_nil)))))))), ?_⟩
  refine' a_when (K := K) (b := !true) (et_nt (et2 (er_cb (era_cons (er_v rfl) (era_cons er_c era_nil)) (rc_isi_str (by decide +kernel))))) ?g1 ?g2
  case g1 =>
    intro hb
    cases hb
  case g2 =>
    intro _ H1 e1
    refine' a_when (K := K) (b := !(decide ((1 : Int) ≤ (a.length : Int)) && decide ((a.length : Int) ≤ 8))) (et_nt (et1 (er_chain er_c (er_cb (era_cons (er_v rfl) era_nil) (rc_lenC (z := a) (by omega))) ro_I0 (fun _ => er_c) fun _ => ro_I0))) ?g3 ?g4
    case g3 =>
      intro hb H2 e2
      refine a_rete (K := K) er_c ?_ (e1.trans e2) hk
      have e0 : nameOk a = false := by
        unfold nameOk
        have q : (decide (1 ≤ a.length) && decide (a.length ≤ 8)) = false := by
          simp at hb ⊢
          omega
        rw [q]
        rfl
      show Dd.b false = Dd.b (nameOk a)
      rw [e0]
    case g4 =>
      intro hb H2 e2
      have q : (decide (1 ≤ a.length) && decide (a.length ≤ 8)) = true := by
        simp at hb ⊢
        omega
      have q1 : 1 ≤ a.length := by
        rw [Bool.and_eq_true] at q
        exact of_decide_eq_true q.1
      refine' a_rete (K := K) (er_andV (a := decide (a.getD 0 0 ∈ letters)) (b := (a.map nameSign).all id) (er_op (d1 := .s (S [a.getD 0 0])) (d2 := .s (S letters)) (er_sign (n := 0) (er_v rfl) er_c (by omega) (by omega)) er_c (ro_inS (c := a.getD 0 0))) fun _ => er_cb (era_cons (Er.to (c_lcS' (K := K) (z := a) (vs := [1]) (fun c => V.bl (nameSign c)) (er_v rfl) (by omega) (fun _ => rfl) ?g5) ?g6) era_nil) rc_allBN) ?g7 (e1.trans e2) hk
      case g5 =>
        intro i c H3 e3 hi
        exact er_orV (a := decide (c ∈ letters)) (b := decide (c ∈ digits)) (er_op (d1 := .s (S [c])) (d2 := .s (S letters)) (er_v rfl) er_c (ro_inS (c := c))) fun _ => er_op (d1 := .s (S [c])) (d2 := .s (S digits)) (er_v rfl) er_c (ro_inS (c := c))
      case g6 =>
        show Dd.n (a.map (V.bl ∘ nameSign)) = Dd.n ((a.map nameSign).map V.bl)
        rw [List.map_map]
      show Dd.b (decide (a.getD 0 0 ∈ letters) && (a.map nameSign).all id) = Dd.b (nameOk a)
      unfold nameOk
      rw [q, List.all_map]
      rfl

abbrev s_is_stamp : Stmt := topS 23
theorem sc_is_stamp : FnScope ["value", "size"] ["value", "size"] (defScope s_is_stamp) := ⟨rfl, rfl, rfl, by decide +kernel, rfl, by decide +kernel, by decide +kernel⟩

def stampOk (l : List Nat) (size : Nat) : Bool := layerOk l && (decide ((l.length : Int) = (size : Int)) && decide (0 < ((vis (cellsM l)).length : Int)))
abbrev sp_is_stamp (K : PySem.W.Frag) : Sp := spR K (fun a : List Nat × Nat => a.1.length ≤ 1000) (fun a => [.s (S a.1), .i (a.2 : Int)]) fun a => .b (stampOk a.1 a.2)
theorem has_is_stamp (T : Txt K mg) (h : At K mg "is_stamp" s_is_stamp ["value", "size"]) (C_is_layer : Has P w K mg base 1 "is_layer" ["value"] (sp_is_layer K)) (C_cells_of : Has P w K mg base 1 "cells_of" ["one"] (sp_cells K)) : Has P w K mg base 2 "is_stamp" ["value", "size"] (sp_is_stamp K) := by
  refine h.hasR sc_is_stamp (fun _ => rfl) fun f cdv A outer s H a vs Q E hr hp hv hk => ?_
  obtain ⟨l, size⟩ := a
  replace hp : l.length ≤ 1000 := hp
  rcases hv with _ | ⟨rfl, _ | ⟨rfl, _ | _⟩⟩
  have sc := sc_is_stamp
  refine ⟨_, (pss_one (ps_ret (pe_and (pe_callH C_is_layer (hr.mono (by decide)) (pa_cons (pv 0) pa_nil)) (pe_and (pe_cmpR op_eq (pe_callB cr_lenStr (by rfl) T.b_len (by decide +kernel) (pa_cons (pv 0) pa_nil)) (pv 1) (nomark _)) (pe_one (pe_cmpR op_gt (pe_callB (cr_len_k (K := K)) (by rfl) T.b_len (by decide +kernel) (pa_cons (pe_callH C_cells_of (hr.mono (by decide)) (pa_cons (pv 0) pa_nil)) pa_nil)) pe_int (nomark _))))))), ?_⟩
  exact a_rete (K := K) (er_andV (er_call (K := K) l (era_cons (er_v rfl) era_nil) rfl hp) fun _ => er_andV (er_op (er_cb (era_cons (er_v rfl) era_nil) (rc_lenC (z := l) (by omega))) (er_v rfl) ro_eqI) fun _ => er_op (er_cb (era_cons (er_call (K := K) l (era_cons (er_v rfl) era_nil) rfl hp) era_nil) rc_lenU) er_c ro_I0) rfl (Ex.refl H) hk

end
end Mi

set_option maxHeartbeats 4000000
namespace Mi
open PySem PySem.Spec PyProof.Rows L2 Evl
local macro_rules | `(tactic| walk_at "side") => `(tactic| (first | assumption | omega | exact rfl | decide | (simp only [List.length_cons, List.length_nil, List.length_map, List.length_append, List.length_replicate] <;> omega)))
local macro_rules | `(tactic| walk_at "ro") => `(tactic| (first
  | with_reducible exact ro_I0
  | with_reducible exact ro_1018
  | with_reducible exact ro_neC
  | with_reducible exact ro_eqC
  | with_reducible exact ro_neI
  | with_reducible exact ro_eqI
  | with_reducible exact ro_neB
  | with_reducible exact ro_eqB
  | ((with_reducible apply ro_mod); (walk_at "side"))
  | ((with_reducible apply ro_div) <;> (walk_at "side"))
  | ((with_reducible apply ro_divW) <;> (walk_at "side"))
  | with_reducible exact ro_1012
  | with_reducible exact ro_1015
  | ((with_reducible apply ro_mulL) <;> (walk_at "side"))
  | ((with_reducible apply ro_mulR) <;> (walk_at "side"))
  | ((with_reducible apply ro_addC); (walk_at "side"))
  | ((with_reducible apply ro_ixC) <;> (walk_at "side"))
  | ((with_reducible apply ro_ixI) <;> (walk_at "side"))
  | ((with_reducible apply ro_ixIN) <;> (walk_at "side"))
  | ((with_reducible apply ro_ixT2) <;> (walk_at "side"))
  | ((with_reducible apply ro_ixG) <;> (walk_at "side"))
  | ((with_reducible apply ro_eq); exact rfl)
  | ((with_reducible apply ro_ne); exact rfl)
  | with_reducible exact ro_isN
  | with_reducible exact ro_notN
  | with_reducible exact ro_eqL
  | with_reducible exact ro_neL
  | with_reducible exact ro_eqU
  | ((with_reducible apply ro_cat); (walk_at "side"))
  | with_reducible exact ro_inLi
  | with_reducible exact ro_inNi
  | with_reducible exact ro_inUi
  | ((with_reducible apply ro_inL) <;> (walk_at "side"))
  | ((with_reducible apply ro_inN) <;> (walk_at "side"))
  | ((with_reducible apply ro_inU) <;> (walk_at "side"))))
local macro_rules | `(tactic| walk_at "rc") => `(tactic| (first
  | with_reducible exact rc_int
  | with_reducible exact rc_intB
  | with_reducible exact rc_max2
  | ((with_reducible apply rc_lenC); (walk_at "side"))
  | with_reducible exact rc_lenI
  | with_reducible exact rc_lenT
  | with_reducible exact rc_lenIN
  | with_reducible exact rc_lenTN
  | with_reducible exact rc_lenL
  | with_reducible exact rc_lenN
  | with_reducible exact rc_lenU
  | with_reducible exact rc_listL
  | with_reducible exact rc_listU
  | with_reducible exact rc_tupL
  | with_reducible exact rc_tupN
  | ((with_reducible apply rc_isi_int); decide +kernel)
  | ((with_reducible apply rc_isi_str); decide +kernel)
  | ((with_reducible apply rc_isi_bl); decide +kernel)
  | ((with_reducible apply rc_isi_non); decide +kernel)
  | ((with_reducible apply rc_isi_u); decide +kernel)
  | ((with_reducible apply rc_isi_l); decide +kernel)))
local macro_rules | `(tactic| walk_at "er") => `(tactic| (first
  | ((with_reducible apply er_var); (exact rfl); assumption)
  | ((with_reducible apply er_v); exact rfl)
  | with_reducible exact er_c
  | ((with_reducible apply er_pick); (walk_at "er"); (walk_at "er"); (walk_at "er"))
  | ((with_reducible apply er_op); (walk_at "er"); (walk_at "er"); (walk_at "ro"))
  | ((with_reducible apply er_cb); (walk_at "era"); (walk_at "rc"))
  | ((with_reducible apply er_lst'); (walk_at "era"); (exact rfl); (walk_at "side"))
  | ((with_reducible apply er_tup'); (walk_at "era"); (exact rfl); (walk_at "side"))
  | ((with_reducible apply er_notV); (walk_at "er"))
  | ((with_reducible apply er_andV); (walk_at "er"); (intro _; (walk_at "er")))
  | ((with_reducible apply er_orV); (walk_at "er"); (intro _; (walk_at "er")))
  | ((with_reducible apply er_ite); (walk_at "et"); (intro _; (walk_at "er")); (intro _; (walk_at "er")))))
local macro_rules | `(tactic| walk_at "era") => `(tactic| (first
  | with_reducible exact era_nil
  | ((with_reducible apply era_cons); (walk_at "er"); (walk_at "era"))))
local macro_rules | `(tactic| walk_at "et") => `(tactic| (first
  | ((with_reducible apply et_an); (walk_at "et"); (intro _; (walk_at "et")))
  | ((with_reducible apply et_orr); (walk_at "et"); (intro _; (walk_at "et")))
  | ((with_reducible apply et_nt); (walk_at "et"))
  | ((with_reducible apply et1); (walk_at "er"))
  | ((with_reducible apply et2); (walk_at "er"))))

section
variable {P : Program} {w : World} {K : PySem.W.Frag} {mg : Str → Option Value} {base : Heap}

theorem kit2 {n m1 m2 : String} {b1 b2 : Bool} (h1 : kitB n m1 = some b1) (h2 : kitB n m2 = some b2) : PySem.W.kitAny K (.type n) [.type m1, .type m2] = some (b1 || b2) := by
  have q1 : PySem.W.kitOne K (.type n) (.type m1) = some b1 := kit_ty h1
  have q2 : PySem.W.kitOne K (.type n) (.type m2) = some b2 := kit_ty h2
  unfold PySem.W.kitAny
  rw [q1]
  cases b1 with
  | true => rfl
  | false =>
    show PySem.W.kitAny K (.type n) [.type m2] = some b2
    unfold PySem.W.kitAny
    rw [q2]
    cases b2 <;> rfl
abbrev s_as_tuples : Stmt := topS 2
theorem sc_as_tuples : FnScope ["value", "item"] ["value"] (defScope s_as_tuples) := ⟨rfl, rfl, rfl, by decide +kernel, rfl, by decide +kernel, by decide +kernel⟩

abbrev sp_tup (K : PySem.W.Frag) (k : Nat) : Sp := spF K (fun d : Dd => okD d ∧ depD d < k) (fun d => [d]) tupD
theorem has_as_tuples (T : Txt K mg) (h : At K mg "as_tuples" s_as_tuples ["value"]) : ∀ k, Has P w K mg base k "as_tuples" ["value"] (sp_tup K k)
  | 0 => h.none fun d hp => by
    have := hp.2
    omega
  | k + 1 => by
    have C_as_tuples := has_as_tuples T h k
    refine h.hasF sc_as_tuples (fun _ => rfl) fun f cdv Ar outer s G A d vs Q E hr hp hA hv hk => ?_
    obtain ⟨hok, hdep⟩ := hp
    rcases hv with _ | ⟨hx, _ | _⟩
    rename_i x
    have sc := sc_as_tuples
    refine ⟨_, (pss_cons (ps_if (pt_val (pe_callB (cr_isiT_k (K := K)) (by rfl) T.b_isinstance (by decide +kernel) (pa_cons (pv 0) (pa_cons (pe_tup (pa_cons (pe_bltn (v := .ty "list") (by rfl) T.b_list (by decide +kernel) rfl) (pa_cons (pe_bltn (v := .ty "tuple") (by rfl) T.b_tuple (by decide +kernel) rfl) pa_nil))) pa_nil)))) (pss_one (ps_ret (pe_callTy (cr_tuple_k (K := K)) (by rfl) T.b_tuple (by decide +kernel) (pa_cons (pe_lc (own := [("item", 1)]) (g := gName 1) (by rfl) sc.nd (pi_seqV (K := K) (pv 0)) (blkOk_by (N := ["value", "item"]) (sc := defScope s_as_tuples) (own := [("item", 1)]) (by decide +kernel)) (fun _ _ _ _ _ => (pg_name (i := 1) sc.nd rfl (Or.inl rfl))) (fun _ _ _ _ _ => pts_nil) (fun _ _ _ _ _ => (pe_callH C_as_tuples (hr.mono (Nat.le_refl _)) (pa_cons (pv 1) pa_nil)))) pa_nil)))) pss_nil)
    (pss_one (ps_ret (pv 0)))), ?_⟩
    have seq : ∀ ds : List Dd, okL ds → depL ds < k → ds.length ≤ 1000 → Itf K (iSeqV K 0) [some x, none] G (ds.map id) → ∀ A1, Ex A A1 → (∀ v G' A', Step G A G' A' → Is K G' (.U (tupL ds)) v → Q v A') → ∀ N, tRet (tCB (rTupS K) (tCons (tLc (iSeqV K 0) (gName 1) tYes (tCall (sp_tup K k) [] E0 (tCons (tVar 1) tNil)) [1]) tNil)) { nx := N, rt := Q } [some x, none] A1 := by
      intro ds ho hd hz hit A1 e1 hk1 N
      refine s_ret (K := K) (G := G) (d' := .U (tupL ds)) (ef_cb (efa_cons (Ef.to (ef_lc (K := K) (its := ds) (inj := id) (vs := [1]) (fun _ => true) tupD hit (by omega) ?_) ?_) efa_nil) rf_tupN) (hA.trans e1) rfl fun v G' A' st z => hk1 v G' A' ((Step.on hA e1).trans st) z
      · intro i d' v G' A' eg ea hd' hv'
        have e0 := depL_at hd'
        exact ⟨[some x, some v], fun Q q => q, rfl, fun H2 e Q q => q H2 (Ex.refl _), fun _ => ef_call d' (efa_cons (ef_var rfl hv') efa_nil) rfl ⟨okL_at ho hd', by omega⟩⟩
      · rw [filt_true, tupL_map]
    match d, hok, hdep, hx, hk with
    | .L ds, hok, hdep, hx, hk =>
      have hd : depL ds + 1 < k + 1 := hdep
      exact a_when (K := K) (b := true || false) (et2 (er_isiT (.type "list") (er_var rfl (hx.mono hA)) (fun _ _ z => ty_Ld z) (kit2 (by decide +kernel) (by decide +kernel)))) (fun _ A1 e1 => seq ds hok.1 (by omega) hok.2 (by rw [List.map_id]; exact if_seqL rfl hx) A1 e1 hk _) fun hb => by cases hb
    | .U ds, hok, hdep, hx, hk =>
      have hd : depL ds + 1 < k + 1 := hdep
      exact a_when (K := K) (b := false || true) (et2 (er_isiT (.type "tuple") (er_var rfl (hx.mono hA)) (fun _ _ z => ty_Ud z) (kit2 (by decide +kernel) (by decide +kernel)))) (fun _ A1 e1 => seq ds hok.1 (by omega) hok.2 (by rw [List.map_id]; exact if_seqU rfl hx) A1 e1 hk _) fun hb => by cases hb
    | .v (.str z), hok, hdep, hx, hk =>
      exact a_when (K := K) (b := false || false) (et2 (er_isiT (.type "str") (er_var rfl (hx.mono hA)) (fun _ _ e => by rw [show _ = V.str z from e]; exact .base (.str z)) (kit2 (by decide +kernel) (by decide +kernel)))) (fun hb => by cases hb) fun _ A1 e1 => s_ret (K := K) (G := G) (ef_var rfl hx) (hA.trans e1) rfl fun v G' A' st q => hk v G' A' ((Step.on hA e1).trans st) q
    | .v (.int z), hok, hdep, hx, hk =>
      exact a_when (K := K) (b := false || false) (et2 (er_isiT (.type "int") (er_var rfl (hx.mono hA)) (fun _ _ e => by rw [show _ = V.int z from e]; exact .base (.int z)) (kit2 (by decide +kernel) (by decide +kernel)))) (fun hb => by cases hb) fun _ A1 e1 => s_ret (K := K) (G := G) (ef_var rfl hx) (hA.trans e1) rfl fun v G' A' st q => hk v G' A' ((Step.on hA e1).trans st) q
end
end Mi

set_option maxHeartbeats 4000000
namespace Mi
open PySem PySem.Spec PyProof.Rows L2 Evl
local macro_rules | `(tactic| walk_at "side") => `(tactic| (first | assumption | omega | exact rfl | decide | (simp only [List.length_cons, List.length_nil, List.length_map, List.length_append, List.length_replicate] <;> omega)))
local macro_rules | `(tactic| walk_at "ro") => `(tactic| (first
  | with_reducible exact ro_I0
  | with_reducible exact ro_1018
  | with_reducible exact ro_neC
  | with_reducible exact ro_eqC
  | with_reducible exact ro_neI
  | with_reducible exact ro_eqI
  | with_reducible exact ro_neB
  | with_reducible exact ro_eqB
  | ((with_reducible apply ro_mod); (walk_at "side"))
  | ((with_reducible apply ro_div) <;> (walk_at "side"))
  | ((with_reducible apply ro_divW) <;> (walk_at "side"))
  | with_reducible exact ro_1012
  | with_reducible exact ro_1015
  | ((with_reducible apply ro_mulL) <;> (walk_at "side"))
  | ((with_reducible apply ro_mulR) <;> (walk_at "side"))
  | ((with_reducible apply ro_addC); (walk_at "side"))
  | ((with_reducible apply ro_ixC) <;> (walk_at "side"))
  | ((with_reducible apply ro_ixI) <;> (walk_at "side"))
  | ((with_reducible apply ro_ixIN) <;> (walk_at "side"))
  | ((with_reducible apply ro_ixT2) <;> (walk_at "side"))
  | ((with_reducible apply ro_ixG) <;> (walk_at "side"))
  | ((with_reducible apply ro_eq); exact rfl)
  | ((with_reducible apply ro_ne); exact rfl)
  | with_reducible exact ro_isN
  | with_reducible exact ro_notN
  | with_reducible exact ro_eqL
  | with_reducible exact ro_neL
  | with_reducible exact ro_eqU
  | ((with_reducible apply ro_cat); (walk_at "side"))
  | with_reducible exact ro_inLi
  | with_reducible exact ro_inNi
  | with_reducible exact ro_inUi
  | ((with_reducible apply ro_inL) <;> (walk_at "side"))
  | ((with_reducible apply ro_inN) <;> (walk_at "side"))
  | ((with_reducible apply ro_inU) <;> (walk_at "side"))))
local macro_rules | `(tactic| walk_at "rc") => `(tactic| (first
  | with_reducible exact rc_int
  | with_reducible exact rc_intB
  | with_reducible exact rc_max2
  | ((with_reducible apply rc_lenC); (walk_at "side"))
  | with_reducible exact rc_lenI
  | with_reducible exact rc_lenT
  | with_reducible exact rc_lenIN
  | with_reducible exact rc_lenTN
  | with_reducible exact rc_lenL
  | with_reducible exact rc_lenN
  | with_reducible exact rc_lenU
  | with_reducible exact rc_listL
  | with_reducible exact rc_listU
  | with_reducible exact rc_tupL
  | with_reducible exact rc_tupN
  | ((with_reducible apply rc_isi_int); decide +kernel)
  | ((with_reducible apply rc_isi_str); decide +kernel)
  | ((with_reducible apply rc_isi_bl); decide +kernel)
  | ((with_reducible apply rc_isi_non); decide +kernel)
  | ((with_reducible apply rc_isi_u); decide +kernel)
  | ((with_reducible apply rc_isi_l); decide +kernel)))
local macro_rules | `(tactic| walk_at "er") => `(tactic| (first
  | ((with_reducible apply er_var); (exact rfl); assumption)
  | ((with_reducible apply er_v); exact rfl)
  | with_reducible exact er_c
  | ((with_reducible apply er_pick); (walk_at "er"); (walk_at "er"); (walk_at "er"))
  | ((with_reducible apply er_op); (walk_at "er"); (walk_at "er"); (walk_at "ro"))
  | ((with_reducible apply er_cb); (walk_at "era"); (walk_at "rc"))
  | ((with_reducible apply er_lst'); (walk_at "era"); (exact rfl); (walk_at "side"))
  | ((with_reducible apply er_tup'); (walk_at "era"); (exact rfl); (walk_at "side"))
  | ((with_reducible apply er_notV); (walk_at "er"))
  | ((with_reducible apply er_andV); (walk_at "er"); (intro _; (walk_at "er")))
  | ((with_reducible apply er_orV); (walk_at "er"); (intro _; (walk_at "er")))
  | ((with_reducible apply er_ite); (walk_at "et"); (intro _; (walk_at "er")); (intro _; (walk_at "er")))))
local macro_rules | `(tactic| walk_at "era") => `(tactic| (first
  | with_reducible exact era_nil
  | ((with_reducible apply era_cons); (walk_at "er"); (walk_at "era"))))
local macro_rules | `(tactic| walk_at "et") => `(tactic| (first
  | ((with_reducible apply et_an); (walk_at "et"); (intro _; (walk_at "et")))
  | ((with_reducible apply et_orr); (walk_at "et"); (intro _; (walk_at "et")))
  | ((with_reducible apply et_nt); (walk_at "et"))
  | ((with_reducible apply et1); (walk_at "er"))
  | ((with_reducible apply et2); (walk_at "er"))))

section
variable {P : Program} {w : World} {K : PySem.W.Frag} {mg : Str → Option Value} {base : Heap}
/-! ### check_pairs -/
abbrev s_check_pairs : Stmt := topS 24
theorem sc_check_pairs : FnScope ["pairs", "fitting", "earlier", "index", "name", "_"] ["pairs", "fitting"] (defScope s_check_pairs) := ⟨rfl, rfl, rfl, by decide +kernel, rfl, by decide +kernel, by decide +kernel⟩

structure PairsOk (n : Nat) (sts : List (List Nat × List Nat)) : Prop where
  nm : ∀ p ∈ sts, nameOk p.1 = true ∧ p.1.length ≤ 1000
  st : ∀ p ∈ sts, stampOk p.2 n = true ∧ p.2.length ≤ 1000
  di : (sts.map (·.1)).Nodup
  few : sts.length ≤ 1000
theorem not_before {sts : List (List Nat × List Nat)} {i : Nat} {p : List Nat × List Nat} (hd : (sts.map (·.1)).Nodup) (h : sts[i]? = some p) : inV (.str (S p.1)) ((sts.take i).map fun q => V.str (S q.1)) = false := by
  unfold inV
  rw [List.any_eq_false]
  intro x hx
  obtain ⟨q, hq, rfl⟩ := List.mem_map.mp hx
  obtain ⟨j, hj, hj2⟩ := List.getElem_of_mem hq
  rw [List.length_take] at hj
  rw [List.getElem_take] at hj2
  have hi := (List.getElem?_eq_some_iff.mp h)
  obtain ⟨hi1, hi2⟩ := hi
  intro e
  have e2 : q.1 = p.1 := by
    have : S q.1 = S p.1 := by simpa [eqV] using e
    exact S_inj this
  have hp := List.pairwise_iff_getElem.mp hd j i (by rw [List.length_map]; omega) (by rw [List.length_map]; exact hi1) (by omega)
  apply hp
  rw [List.getElem_map, List.getElem_map, hi2, hj2]
  exact e2
def fitB (n : Nat) (sts : List (List Nat × List Nat)) : List Bool := sts.map fun p => stampOk p.2 n
abbrev sp_check (K : PySem.W.Frag) : Sp := spF K (fun a : Nat × List (List Nat × List Nat) => PairsOk a.1 a.2) (fun a => [.U (prD a.2), .n ((fitB a.1 a.2).map V.bl)]) fun _ => .v .non
theorem has_check_pairs (T : Txt K mg) (h : At K mg "check_pairs" s_check_pairs ["pairs", "fitting"]) (C_is_name : Has P w K mg base 1 "is_name" ["value"] (sp_is_name K)) : Has P w K mg base 3 "check_pairs" ["pairs", "fitting"] (sp_check K) := by
  refine h.hasF sc_check_pairs (fun _ => rfl) fun f cdv Ar outer s G A a vs Q E hr hp hA hv hk => ?_
  obtain ⟨n, sts⟩ := a
  replace hp : PairsOk n sts := hp
  rcases hv with _ | ⟨hx, _ | ⟨⟨fp, rfl, hfp⟩, _ | _⟩⟩
  rename_i vp
  replace hx : Is K G (.U (prD sts)) vp := hx
  have sc := sc_check_pairs
  refine ⟨_, (pss_cons (ps_set (i := 2) sc.nd rfl (Or.inl rfl) (pe_lst pa_nil))
    (pss_one (ps_for PassesOwn.never rfl (pi_enumT (K := K) (by rfl) T.b_enumerate (pa_cons (pv 0) pa_nil)) (pg_tup rfl (pgs_cons (pg_name (i := 3) sc.nd rfl (Or.inl rfl)) (pgs_cons (pg_tup rfl (pgs_cons (pg_name (i := 4) sc.nd rfl (Or.inl rfl)) (pgs_cons (pg_name (i := 5) sc.nd rfl (Or.inl rfl)) pgs_nil))) pgs_nil))) (pss_cons (ps_if (pt_not (pt_val (pe_callH C_is_name (hr.mono (by decide)) (pa_cons (pv 4) pa_nil)))) (pss_one ps_never) pss_nil)
    (pss_cons (ps_if (pt_not (pt_val (pe_ix (ix_list_k (K := K)) (pv 1) (pv 3) (fun _ _ => rfl)))) (pss_one ps_never) pss_nil)
    (pss_cons (ps_if (pt_cmpR (op_in_k (K := K)) (pv 4) (pv 2) rfl) (pss_one ps_never) pss_nil)
    (pss_one (ps_expr (pe_bm_k (K := K) PySem.F.plainAttrs_list PySem.F.slot_list_append PySem.F.type_list_append mt_append (pv 2) (pa_cons (pv 4) pa_nil)))))))))), ?_⟩
  refine s_new hA fun l A1 hl0 hg0 s1 hl1 => ?_
  have flat : ∀ i, ((sts.take i).map fun q => V.str (S q.1)).all flatV = true := fun i => by
    rw [List.all_eq_true]
    intro x hx
    obtain ⟨q, _, rfl⟩ := List.mem_map.mp hx
    rfl
  refine f_for (K := K) (ds := (prD sts).zipIdx.map fun p => Dd.U [.i (p.2 : Int), p.1]) (if_enumT (ef_var rfl hx)) s1.v (fun i σ' G' A' => ∃ o1 o2 o3, σ' = [some vp, some (.ref fp), some (.ref l), o1, o2, o3] ∧ G' l = none ∧ A' l = some (.lst ((sts.take i).map fun q => V.str (S q.1))) ∧ Step G A G' A') (fun G2 A2 s2 => ⟨none, none, none, rfl, s2.f l (by rw [hl1]; simp) hg0, s2.a l _ hl1, s1.trans s2⟩) ?_ ?_
  · rintro G2 eg i d v σ' G' A' G3 A3 hd ⟨o1, o2, o3, rfl, g1, a1, st⟩ e1 e2 s3 hv
    rw [List.getElem?_map, List.getElem?_zipIdx, List.getElem?_map] at hd
    cases hi : sts[i]? with
    | none => rw [hi] at hd; cases hd
    | some p =>
      rw [hi] at hd
      have ed : Dd.U [.i (((0 + i : Nat)) : Int), .U [.s (S p.1), .s (S p.2)]] = d := Option.some.inj hd
      subst ed
      have hm := List.mem_of_getElem? hi
      obtain ⟨nm1, nm2⟩ := hp.nm p hm
      obtain ⟨st1, st2⟩ := hp.st p hm
      have hil := (List.getElem?_eq_some_iff.mp hi).1
      have few := hp.few
      refine g_nest s3.v hv fun v1 v2 z1 z2 => ?_
      obtain rfl : v1 = V.str (S p.1) := z1
      obtain rfl : v2 = V.str (S p.2) := z2
      have a3 := s3.a l _ a1
      have g3 := s3.f l (by rw [a1]; simp) g1
      refine a_when (K := K) (b := !nameOk p.1) (et_nt (et2 (er_call p.1 (era_cons (er_v rfl) era_nil) rfl nm2))) (fun z => absurd z (by rw [nm1]; decide)) fun _ A4 e4 => ?_
      refine a_when (K := K) (b := !stampOk p.2 n) (et_nt (et2 (er_op (d1 := .n ((fitB n sts).map V.bl)) (er_var rfl ⟨fp, rfl, e4 fp _ (s3.a fp _ (st.v fp _ (st.g fp _ hfp)))⟩) (er_v rfl) (ro_ixN (i := ((0 + i : Nat) : Int)) (by omega) (by rw [Int.toNat_natCast, Nat.zero_add, List.getElem?_map]; unfold fitB; rw [List.getElem?_map, hi]; rfl))))) (fun z => absurd z (by rw [st1]; decide)) fun _ A5 e5 => ?_
      have a5 := e5 l _ (e4 l _ a3)
      refine a_when (K := K) (b := inV (.str (S p.1)) ((sts.take i).map fun q => V.str (S q.1))) (et1 (er_op (d2 := .n ((sts.take i).map fun q => V.str (S q.1))) (er_v rfl) (er_var rfl ⟨l, rfl, a5⟩) (ro_inN (neg := false) rfl (flat i)))) (fun z => absurd z (by rw [not_before hp.di hi]; decide)) fun _ A6 e6 => ?_
      have s6 := s3.trans (Step.on s3.v ((e4.trans e5).trans e6))
      refine s_app (G := G3) (e6 l _ a5) g3 (s3.v.trans ((e4.trans e5).trans e6)) (er_v rfl) (ef_flat (er_v (x := .str (S p.1)) rfl)) (by rw [List.length_map, List.length_take]; omega) fun w7 G7 A7 s7 z7 g7 a7 => ?_
      obtain rfl : w7 = V.str (S p.1) := z7
      refine ⟨G7, ⟨_, _, _, rfl, g7, ?_, ?_⟩, ?_, ?_⟩
      · rw [upd_same, map_take_next hi]
      · exact ((st.trans s6).trans s7).grow hl0 g7
      · exact e1.trans (s6.g.trans s7.g)
      · exact s7.v.mut g7
  · rintro σ' G' A' e1 e2 ⟨o1, o2, o3, rfl, g1, a1, st⟩
    exact hk .non G' A' st rfl
/-! ### Stock(..) -/
abbrev s_Stock___init__ : Stmt := inClass (topS 27) 0
theorem sc_Stock___init__ : FnScope ["self", "size", "stamps", "pairs", "name", "stamp"] ["self", "size", "stamps"] (defScope s_Stock___init__) := ⟨rfl, rfl, rfl, by decide +kernel, rfl, by decide +kernel, by decide +kernel⟩

structure StTxt (K : PySem.W.Frag) (mg : Str → Option Value) (C : Addr) : Prop where
  cl : Cls K C
  nS : NoAttr K C "size"
  nT : NoAttr K C "stamps"
  nO : NoAttr K C "_stamp_of"
  mgC : mg "Stock" = some (.ref C)
structure GvOk (d : Dd) (sts : List (List Nat × List Nat)) : Prop where
  ok : okD d
  dp : depD d < 3
  tp : tupD d = .U (prD sts)
def spInit (K : PySem.W.Frag) (C : Addr) : Sp := fun vs A Q _ => ∃ (x : Addr) (n : Nat) (sts : List (List Nat × List Nat)) (d : Dd) (w : V), vs = [.ref x, .int (n : Int), w] ∧ PairsOk n sts ∧ GvOk d sts ∧ ∃ dx G A0, Ex G A0 ∧ Ex A0 A ∧ A0 x = none ∧ A x = some (.ins C dx []) ∧ Is K G d w ∧ ∀ G' A', Step G A0 G' A' → Is K G' (stockC K C (n : Int) sts) (.ref x) → Q .non A'
theorem stD_ok {sts : List (List Nat × List Nat)} (h : sts.length ≤ 1000) : okD (.L (stD sts)) ∧ depD (.L (stD sts)) < 3 ∧ tupD (.L (stD sts)) = .U (prD sts) := by
  have e1 : ∀ sts : List (List Nat × List Nat), okL (stD sts) ∧ depL (stD sts) ≤ 1 ∧ tupL (stD sts) = prD sts := by
    intro sts
    induction sts with
    | nil => exact ⟨trivial, Nat.zero_le _, rfl⟩
    | cons p r ih =>
      obtain ⟨i1, i2, i3⟩ := ih
      refine ⟨⟨⟨⟨trivial, trivial, trivial⟩, by simp⟩, i1⟩, ?_, ?_⟩
      · show max (depD (.L [.s (S p.1), .s (S p.2)])) (depL (stD r)) ≤ 1
        have : depD (.L [.s (S p.1), .s (S p.2)]) = 1 := rfl
        omega
      · show tupD (.L [.s (S p.1), .s (S p.2)]) :: tupL (stD r) = Dd.U [.s (S p.1), .s (S p.2)] :: prD r
        rw [i3]
        rfl
  obtain ⟨i1, i2, i3⟩ := e1 sts
  refine ⟨⟨i1, by rw [stD_len]; exact h⟩, ?_, ?_⟩
  · show depL (stD sts) + 1 < 3
    omega
  · show Dd.U (tupL (stD sts)) = _
    rw [i3]
theorem ok_init {f C : Addr} {fd : FuncData} (F : Fun K "__init__" "Stock.__init__" s_Stock___init__ f fd) (T : Txt K mg) (TS : StTxt K mg C) (C_as_tuples : Has P w K mg base 3 "as_tuples" ["value"] (sp_tup K 3)) (C_is_stamp : Has P w K mg base 2 "is_stamp" ["value", "size"] (sp_is_stamp K)) (C_check_pairs : Has P w K mg base 3 "check_pairs" ["pairs", "fitting"] (sp_check K)) : FnOk P w K mg base CX0 4 f fd ["self", "size", "stamps"] (spInit K C) := by
  have sc := sc_Stock___init__
  refine F.ok sc (fun vs H Q E h => ?_) (fun cdv Ar outer s A vs Q E hr h => ?_)
  · obtain ⟨x, n, sts, d, w, rfl, _⟩ := h
    rfl
  obtain ⟨x, n, sts, d, wv, rfl, hp, hg, dx, G, A0, hGA, hA, hx0, hx, hw, hk⟩ := h
  refine ⟨_, (pss_cons (ps_set (i := 3) sc.nd rfl (Or.inl rfl) (pe_callH C_as_tuples (hr.mono (by decide)) (pa_cons (pv 2) pa_nil)))
    (pss_cons (ps_expr (pe_callH C_check_pairs (hr.mono (by decide)) (pa_cons (pv 3) (pa_cons (pe_lc (own := [("name", 4), ("stamp", 5)]) (g := gTup K 2 (gCons (gName 4) (gCons (gName 5) gNil))) (by rfl) sc.nd (pi_tup_k (K := K) (pv 3)) (blkOk_by (N := ["self", "size", "stamps", "pairs", "name", "stamp"]) (sc := defScope s_Stock___init__) (own := [("name", 4), ("stamp", 5)]) (by decide +kernel)) (fun _ _ _ _ _ => (pg_tup rfl (pgs_cons (pg_name (i := 4) sc.nd rfl (Or.inl rfl)) (pgs_cons (pg_name (i := 5) sc.nd rfl (Or.inl rfl)) pgs_nil)))) (fun _ _ _ _ _ => pts_nil) (fun _ _ _ _ _ => (pe_callH C_is_stamp (hr.mono (by decide)) (pa_cons (pv 5) (pa_cons (pv 1) pa_nil))))) pa_nil))))
    (pss_cons (ps_fld (pv 0) (pv 1) rfl)
    (pss_cons (ps_fld (pv 0) (pv 3) rfl)
    (pss_one (ps_fld (pv 0) (pe_dc (own := [("name", 4), ("stamp", 5)]) (g := gTup K 2 (gCons (gName 4) (gCons (gName 5) gNil))) (by rfl) sc.nd (pi_tup_k (K := K) (pv 3)) (blkOk_by (N := ["self", "size", "stamps", "pairs", "name", "stamp"]) (sc := defScope s_Stock___init__) (own := [("name", 4), ("stamp", 5)]) (by decide +kernel)) (fun _ _ _ _ _ => (pg_tup rfl (pgs_cons (pg_name (i := 4) sc.nd rfl (Or.inl rfl)) (pgs_cons (pg_name (i := 5) sc.nd rfl (Or.inl rfl)) pgs_nil)))) (fun _ _ _ _ _ => pts_nil) (fun _ _ _ _ _ => (pv 4)) (fun _ _ _ _ _ => (pv 5))) rfl)))))), ?_⟩
  obtain ⟨k1, k2, k3⟩ := hg
  have s0 : Step G A0 G A := .on hGA hA
  have gx : G x = none := ex_out hGA hx0
  refine s_set (K := K) (d := .U (prD sts)) (Ef.to (ef_call d (efa_cons (ef_var rfl hw) efa_nil) rfl ⟨k1, k2⟩) k3) s0.v fun vp G1 A1 s1 hvp => ?_
  have hfit : Ef K (tLc (iTup K (tVar 3)) (gTup K 2 (gCons (gName 4) (gCons (gName 5) gNil))) tYes (tCall (sp_is_stamp K) [] E0 (tCons (tVar 5) (tCons (tVar 1) tNil))) [4, 5]) [some (.ref x), some (.int (n : Int)), some wv, some vp, none, none] G1 (.n ((fitB n sts).map V.bl)) := by
    refine Ef.as (ef_lc (K := K) (its := sts) (inj := fun p => Dd.U [.s (S p.1), .s (S p.2)]) (fun _ => true) (fun p => Dd.b (stampOk p.2 n)) (if_tup (ef_var (i := 3) rfl hvp)) (by have := hp.few; omega) (fun i p v G' A' eg ea hi hv => ?_)) ?_
    · obtain ⟨T1, us, rfl, hT, y1, r1, rfl, hy1, y2, r2, rfl, hy2, hr2⟩ := hv
      have er : r2 = [] := hr2
      subst er
      obtain rfl : y1 = V.str (S p.1) := hy1
      obtain rfl : y2 = V.str (S p.2) := hy2
      exact ⟨_, fun Q q => ⟨T1, _, rfl, ex_t ea hT, rfl, _, _, rfl, _, _, rfl, rfl, q⟩, rfl, fun H2 e Q q => q H2 (Ex.refl _), fun _ => ef_flat (er_call (p.2, n) (era_cons (er_v rfl) (era_cons (er_v rfl) era_nil)) rfl (hp.st p (List.mem_of_getElem? hi)).2)⟩
    · intro H v z
      rw [filt_true] at z
      refine Is.N2n ?_
      unfold fitB
      rw [List.map_map, List.map_map]
      exact z
  refine s_drop (K := K) (ef_call (n, sts) (efa_cons (ef_var rfl hvp) (efa_cons hfit efa_nil)) rfl hp) s1.v fun v2 G2 A2 s2 _ => ?_
  have x2 : A2 x = some (.ins C dx []) := s2.a x _ (s1.a x _ hx)
  have g2 : G2 x = none := s2.f x (by rw [s1.a x _ hx]; simp) (s1.f x (by rw [hx]; simp) gx)
  have S2 : Step G A0 G2 A2 := (s0.trans s1).trans s2
  replace hvp := hvp.mono s2.g
  -- self.size = size
  refine ⟨_, rfl, _, rfl, x, C, dx, [], rfl, x2, TS.cl, TS.nS, by decide, ?_⟩
  have S3 := S2.grow (o := .ins C dx (putF "size" (.int (n : Int)) [])) hx0 g2
  -- self.stamps = pairs
  refine ⟨_, rfl, _, rfl, x, C, dx, _, rfl, upd_same, TS.cl, TS.nT, by show 1 < 1000; decide, ?_⟩
  obtain ⟨ps, vs2, rfl, hps, hE⟩ := hvp
  have hvp : Is K G2 (.U (prD sts)) (.ref ps) := ⟨ps, vs2, rfl, hps, hE⟩
  rw [upd_upd]
  have S4 := S2.grow (o := .ins C dx (putF "stamps" (.ref ps) (putF "size" (.int (n : Int)) []))) hx0 g2
  -- self._stamp_of = {..}
  show sFld K (tVar 0) (tDc (iTup K (tVar 3)) (gTup K 2 (gCons (gName 4) (gCons (gName 5) gNil))) tYes (tVar 4) (tVar 5) [4, 5]) "_stamp_of" { nx := fun _ H' => Q .non H', rt := Q } [some (.ref x), some (.int (n : Int)), some wv, some (.ref ps), none, none] _
  unfold sFld
  show tDc (iTup K (tVar 3)) (gTup K 2 (gCons (gName 4) (gCons (gName 5) gNil))) tYes (tVar 4) (tVar 5) [4, 5] [some (.ref x), some (.int (n : Int)), some wv, some (.ref ps), none, none] _ _
  refine ef_dcC (K := K) (σ := [some (.ref x), some (.int (n : Int)), some wv, some (.ref ps), none, none]) (its := sts) (inj := fun p => Dd.U [.s (S p.1), .s (S p.2)]) (G := G2) (fun p : List Nat × List Nat => (Sum.inr (S p.1) : Key)) (fun p => V.str (S p.2)) (List.pairwise_map.mpr ((List.pairwise_map.mp hp.di).imp fun h e => h (S_inj (Sum.inr.inj e)))) (if_tup (ef_var (i := 3) rfl hvp)) (by have := hp.few; omega) (fun i p v G' A' e1 e2 hi hv => ?_) G2 _ (Ex.refl _) S4.v _ fun vd G5 A5 s5 hvd => ?_
  · obtain ⟨T1, us, rfl, hT, y1, r1, rfl, hy1, y2, r2, rfl, hy2, hr2⟩ := hv
    have er : r2 = [] := hr2
    subst er
    obtain rfl : y1 = V.str (S p.1) := hy1
    obtain rfl : y2 = V.str (S p.2) := hy2
    exact ⟨_, fun Q q => ⟨T1, _, rfl, ex_t e2 hT, rfl, _, _, rfl, _, _, rfl, rfl, q⟩, rfl, er_v rfl, er_v rfl⟩
  obtain ⟨dd, rfl, hdd⟩ := hvd
  have x5 : A5 x = some (.ins C dx (putF "stamps" (.ref ps) (putF "size" (.int (n : Int)) []))) := s5.a x _ upd_same
  have g5 : G5 x = none := s5.f x (by rw [upd_same]; simp) g2
  refine ⟨_, rfl, x, C, dx, _, rfl, x5, TS.cl, TS.nO, ?_, ?_⟩
  · have : (putF "stamps" (V.ref ps) (putF "size" (.int (n : Int)) [])).length = 2 := by
      show (if ("size" : Str) = "stamps" then _ else _ : List (Str × V)).length = 2
      rw [if_neg ne_ss]
      rfl
    rw [this]
    decide
  have S5 := (S4.trans s5).grow (o := .ins C dx (stFlds (n : Int) ps dd)) hx0 g5
  refine hk _ _ (S5.seal hx0 g5 upd_same) ⟨x, dx, ps, dd, rfl, upd_same, ?_, ?_⟩
  · exact (hvp.mono s5.g).mono (Ex.new g5)
  · exact Ex.new g5 dd _ hdd
end
end Mi

set_option maxHeartbeats 4000000
namespace Mi
open PySem PySem.Spec PyProof.Rows L2 Evl
local macro_rules | `(tactic| walk_at "side") => `(tactic| (first | assumption | omega | exact rfl | decide | (simp only [List.length_cons, List.length_nil, List.length_map, List.length_append, List.length_replicate] <;> omega)))
local macro_rules | `(tactic| walk_at "ro") => `(tactic| (first
  | with_reducible exact ro_I0
  | with_reducible exact ro_1018
  | with_reducible exact ro_neC
  | with_reducible exact ro_eqC
  | with_reducible exact ro_neI
  | with_reducible exact ro_eqI
  | with_reducible exact ro_neB
  | with_reducible exact ro_eqB
  | ((with_reducible apply ro_mod); (walk_at "side"))
  | ((with_reducible apply ro_div) <;> (walk_at "side"))
  | ((with_reducible apply ro_divW) <;> (walk_at "side"))
  | with_reducible exact ro_1012
  | with_reducible exact ro_1015
  | ((with_reducible apply ro_mulL) <;> (walk_at "side"))
  | ((with_reducible apply ro_mulR) <;> (walk_at "side"))
  | ((with_reducible apply ro_addC); (walk_at "side"))
  | ((with_reducible apply ro_ixC) <;> (walk_at "side"))
  | ((with_reducible apply ro_ixI) <;> (walk_at "side"))
  | ((with_reducible apply ro_ixIN) <;> (walk_at "side"))
  | ((with_reducible apply ro_ixT2) <;> (walk_at "side"))
  | ((with_reducible apply ro_ixG) <;> (walk_at "side"))
  | ((with_reducible apply ro_eq); exact rfl)
  | ((with_reducible apply ro_ne); exact rfl)
  | with_reducible exact ro_isN
  | with_reducible exact ro_notN
  | with_reducible exact ro_eqL
  | with_reducible exact ro_neL
  | with_reducible exact ro_eqU
  | ((with_reducible apply ro_cat); (walk_at "side"))
  | with_reducible exact ro_inLi
  | with_reducible exact ro_inNi
  | with_reducible exact ro_inUi
  | ((with_reducible apply ro_inL) <;> (walk_at "side"))
  | ((with_reducible apply ro_inN) <;> (walk_at "side"))
  | ((with_reducible apply ro_inU) <;> (walk_at "side"))))
local macro_rules | `(tactic| walk_at "rc") => `(tactic| (first
  | with_reducible exact rc_int
  | with_reducible exact rc_intB
  | with_reducible exact rc_max2
  | ((with_reducible apply rc_lenC); (walk_at "side"))
  | with_reducible exact rc_lenI
  | with_reducible exact rc_lenT
  | with_reducible exact rc_lenIN
  | with_reducible exact rc_lenTN
  | with_reducible exact rc_lenL
  | with_reducible exact rc_lenN
  | with_reducible exact rc_lenU
  | with_reducible exact rc_listL
  | with_reducible exact rc_listU
  | with_reducible exact rc_tupL
  | with_reducible exact rc_tupN
  | ((with_reducible apply rc_isi_int); decide +kernel)
  | ((with_reducible apply rc_isi_str); decide +kernel)
  | ((with_reducible apply rc_isi_bl); decide +kernel)
  | ((with_reducible apply rc_isi_non); decide +kernel)
  | ((with_reducible apply rc_isi_u); decide +kernel)
  | ((with_reducible apply rc_isi_l); decide +kernel)))
local macro_rules | `(tactic| walk_at "er") => `(tactic| (first
  | ((with_reducible apply er_var); (exact rfl); assumption)
  | ((with_reducible apply er_v); exact rfl)
  | with_reducible exact er_c
  | ((with_reducible apply er_pick); (walk_at "er"); (walk_at "er"); (walk_at "er"))
  | ((with_reducible apply er_op); (walk_at "er"); (walk_at "er"); (walk_at "ro"))
  | ((with_reducible apply er_cb); (walk_at "era"); (walk_at "rc"))
  | ((with_reducible apply er_lst'); (walk_at "era"); (exact rfl); (walk_at "side"))
  | ((with_reducible apply er_tup'); (walk_at "era"); (exact rfl); (walk_at "side"))
  | ((with_reducible apply er_notV); (walk_at "er"))
  | ((with_reducible apply er_andV); (walk_at "er"); (intro _; (walk_at "er")))
  | ((with_reducible apply er_orV); (walk_at "er"); (intro _; (walk_at "er")))
  | ((with_reducible apply er_ite); (walk_at "et"); (intro _; (walk_at "er")); (intro _; (walk_at "er")))))
local macro_rules | `(tactic| walk_at "era") => `(tactic| (first
  | with_reducible exact era_nil
  | ((with_reducible apply era_cons); (walk_at "er"); (walk_at "era"))))
local macro_rules | `(tactic| walk_at "et") => `(tactic| (first
  | ((with_reducible apply et_an); (walk_at "et"); (intro _; (walk_at "et")))
  | ((with_reducible apply et_orr); (walk_at "et"); (intro _; (walk_at "et")))
  | ((with_reducible apply et_nt); (walk_at "et"))
  | ((with_reducible apply et1); (walk_at "er"))
  | ((with_reducible apply et2); (walk_at "er"))))

def findM (st : List (List Nat × List Nat)) (n : List Nat) : V := match st.find? (fun p => decide (p.1 = n)) with
  | some p => .str (S p.2)
  | none => .non
def stampOf (sts : List (List Nat × List Nat)) (n : List Nat) : List Nat := match sts.find? (fun p => decide (p.1 = n)) with
  | some p => p.2
  | none => []
theorem stampOf_is {sts : List (List Nat × List Nat)} {n : List Nat} (h : ∃ p ∈ sts, p.1 = n) : ∃ p ∈ sts, stampOf sts n = p.2 ∧ findM sts n = .str (S p.2) := by
  obtain ⟨q, hq, hn⟩ := h
  cases hf : sts.find? (fun p => decide (p.1 = n)) with
  | none =>
    have := List.find?_eq_none.mp hf q hq
    simp [hn] at this
  | some p => exact ⟨p, List.mem_of_find?_eq_some hf, by unfold stampOf; rw [hf], by unfold findM; rw [hf]⟩
theorem stampOf_first {sts : List (List Nat × List Nat)} {p : List Nat × List Nat} (hd : (sts.map (·.1)).Nodup) (hm : p ∈ sts) : stampOf sts p.1 = p.2 := by
  unfold stampOf
  cases hf : sts.find? (fun q => decide (q.1 = p.1)) with
  | none =>
    have := List.find?_eq_none.mp hf p hm
    simp at this
  | some q =>
    have hq := List.mem_of_find?_eq_some hf
    have hk : q.1 = p.1 := by
      have h0 := List.find?_some hf
      simpa using h0
    obtain ⟨i, hi, rfl⟩ := List.getElem_of_mem hq
    obtain ⟨j, hj, rfl⟩ := List.getElem_of_mem hm
    have hp := List.pairwise_iff_getElem.mp hd
    rcases Nat.lt_trichotomy i j with h | h | h
    · have := hp i j (by rw [List.length_map]; exact hi) (by rw [List.length_map]; exact hj) h
      rw [List.getElem_map, List.getElem_map] at this
      exact absurd hk this
    · subst h
      rfl
    · have := hp j i (by rw [List.length_map]; exact hj) (by rw [List.length_map]; exact hi) h
      rw [List.getElem_map, List.getElem_map] at this
      exact absurd hk.symm this
def marksN (l : List Nat) : Nat := (l.filter fun c => !decide (c = 45)).length
theorem free_marks : ∀ {a b : List Nat}, a.length = b.length → marksN (freeM a b) ≤ marksN a ∧ (freeM a b ≠ a → marksN (freeM a b) < marksN a)
  | [], [], _ => ⟨Nat.le_refl _, fun h => absurd rfl h⟩
  | x :: a, y :: b, h => by
    obtain ⟨i1, i2⟩ := free_marks (a := a) (b := b) (by simpa using h)
    have e : freeM (x :: a) (y :: b) = (if y = 45 then x else 45) :: freeM a b := rfl
    rw [e]
    by_cases hy : y = 45
    · rw [if_pos hy]
      by_cases hx : x = 45
      · simp only [marksN, List.filter_cons, hx, decide_true, Bool.not_true, Bool.false_eq_true, if_false] at *
        exact ⟨i1, fun hne => i2 fun z => hne (by rw [z])⟩
      · simp only [marksN, List.filter_cons, hx, decide_false, Bool.not_false, if_true, List.length_cons] at *
        exact ⟨by omega, fun hne => by have := i2 fun z => hne (by rw [z]); omega⟩
    · rw [if_neg hy]
      by_cases hx : x = 45
      · simp only [marksN, List.filter_cons, hx, decide_true, Bool.not_true, Bool.false_eq_true, if_false] at *
        exact ⟨i1, fun hne => i2 fun z => hne (by rw [z])⟩
      · simp only [marksN, List.filter_cons, hx, decide_false, decide_true, Bool.not_true, Bool.false_eq_true, if_false, Bool.not_false, if_true, List.length_cons] at *
        exact ⟨by omega, fun _ => by omega⟩
  | [], _ :: _, h => by simp at h
  | _ :: _, [], h => by simp at h

section
variable {P : Program} {w : World} {K : PySem.W.Frag} {mg : Str → Option Value} {base : Heap}
/-! ### methods of a stock -/
abbrev s_Stock___contains__ : Stmt := inClass (topS 27) 3
theorem sc_Stock___contains__ : FnScope ["self", "name"] ["self", "name"] (defScope s_Stock___contains__) := ⟨rfl, rfl, rfl, by decide +kernel, rfl, by decide +kernel, by decide +kernel⟩

abbrev sp_contains (K : PySem.W.Frag) (C : Addr) : Sp := spR K (fun _ : Nat × List (List Nat × List Nat) × List Nat => True) (fun a => [stockC K C (a.1 : Int) a.2.1, .s (S a.2.2)]) fun a => .b (a.2.1.find? fun p => decide (p.1 = a.2.2)).isSome
theorem ok_contains {f C : Addr} {fd : FuncData} (F : Fun K "__contains__" "Stock.__contains__" s_Stock___contains__ f fd) (T : Txt K mg) (TS : StTxt K mg C) : FnOk P w K mg base CX0 1 f fd ["self", "name"] (sp_contains K C) := by
  have sc := sc_Stock___contains__
  refine F.ok sc (fun vs H Q E h => ?_) (fun cdv A outer s H vs Q E hr h => ?_)
  · obtain ⟨a, _, hv, _⟩ := h
    rcases hv with _ | ⟨_, _ | ⟨_, _ | _⟩⟩
    rfl
  obtain ⟨⟨n, sts, name⟩, hp, hv, hk⟩ := h
  rcases hv with _ | ⟨hx, _ | ⟨rfl, _ | _⟩⟩
  rename_i x
  replace hx : Is K H (stockC K C (n : Int) sts) x := hx
  refine ⟨_, (pss_one (ps_ret (pe_cmpR op_inK (pv 1) (pe_fld (pv 0) rfl) rfl))), ?_⟩
  refine a_rete (K := K) (er_op (d1 := .s (S name)) (er_v rfl) (er_stampOf TS.cl TS.nO (er_var rfl hx)) ro_inK) ?_ (Ex.refl H) hk
  rw [stK_get, Option.isSome_map]
theorem ro_notInO {C : Addr} {n : Nat} {sts : List (List Nat × List Nat)} {name : List Nat} : Ro K (rInO C (sp_contains K C) true) (.s (S name)) (stockC K C (n : Int) sts) (.b (!(sts.find? fun p => decide (p.1 = name)).isSome)) := by
  rintro v1 v2 H1 h1 h2 Q q
  obtain rfl : v1 = V.str (S name) := h1
  have h2' : Is K H1 (stockC K C (n : Int) sts) v2 := h2
  obtain ⟨x, dx, ps, dd, rfl, hx, h3, h4⟩ := h2
  exact ⟨x, dx, _, rfl, hx, (n, sts, name), trivial, .cons h2' (.cons rfl .nil), fun v H' e z => ⟨_, z, q _ H' e rfl⟩⟩
abbrev s_Stock_stamp : Stmt := inClass (topS 27) 7
theorem sc_Stock_stamp : FnScope ["self", "name"] ["self", "name"] (defScope s_Stock_stamp) := ⟨rfl, rfl, rfl, by decide +kernel, rfl, by decide +kernel, by decide +kernel⟩

abbrev sp_stamp (K : PySem.W.Frag) (C : Addr) : Sp := spR K (fun a : Nat × List (List Nat × List Nat) × List Nat => ∃ p ∈ a.2.1, p.1 = a.2.2) (fun a => [stockC K C (a.1 : Int) a.2.1, .s (S a.2.2)]) fun a => .s (S (stampOf a.2.1 a.2.2))
theorem ok_stamp {f fC C : Addr} {fd fdC : FuncData} (F : Fun K "stamp" "Stock.stamp" s_Stock_stamp f fd) (T : Txt K mg) (TS : StTxt K mg C) (hiC : PySem.W.findIn K (.ref C) "__contains__" = some (some (.ref fC))) (hfC : PySem.W.isFn K (.ref fC) = true) (FC : FnOk P w K mg base CX0 1 fC fdC ["self", "name"] (sp_contains K C)) (bC : Binds K fdC ["self", "name"] []) : FnOk P w K mg base CX0 2 f fd ["self", "name"] (sp_stamp K C) := by
  have sc := sc_Stock_stamp
  refine F.ok sc (fun vs H Q E h => ?_) (fun cdv A outer s H vs Q E hr h => ?_)
  · obtain ⟨a, _, hv, _⟩ := h
    rcases hv with _ | ⟨_, _ | ⟨_, _ | _⟩⟩
    rfl
  obtain ⟨⟨n, sts, name⟩, hp, hv, hk⟩ := h
  replace hp : ∃ p ∈ sts, p.1 = name := hp
  rcases hv with _ | ⟨hx, _ | ⟨rfl, _ | _⟩⟩
  rename_i x
  replace hx : Is K H (stockC K C (n : Int) sts) x := hx
  obtain ⟨p, hpm, hst, _⟩ := stampOf_is hp
  have hfs : (sts.find? fun p => decide (p.1 = name)).isSome = true := by
    obtain ⟨q, hq, hn⟩ := hp
    rw [List.find?_isSome]
    exact ⟨q, hq, decide_eq_true hn⟩
  have hval : valV (stK sts) (Sum.inr (S name)) = some (.str (S (stampOf sts name))) := by
    rw [stK_get]
    unfold stampOf
    cases hf : sts.find? (fun p => decide (p.1 = name)) with
    | none => rw [hf] at hfs; cases hfs
    | some p => rfl
  refine ⟨_, (pss_cons (ps_if (pt_cmpR (op_notInO hiC hfC FC bC (hr.mono (by decide))) (pv 1) (pv 0) rfl) (pss_one ps_never) pss_nil)
    (pss_one (ps_ret (pe_ix ix_dK (pe_fld (pv 0) rfl) (pv 1) (fun _ _ => rfl))))), ?_⟩
  refine a_when (K := K) (b := !(sts.find? fun p => decide (p.1 = name)).isSome) (et1 (er_op (d1 := .s (S name)) (er_v rfl) (er_var rfl hx) ro_notInO)) (fun hb => by rw [hfs] at hb; cases hb) fun _ H1 e1 => ?_
  exact a_rete (K := K) (er_op (d2 := .s (S name)) (er_stampOf TS.cl TS.nO (er_var rfl (hx.mono e1))) (er_v rfl) (ro_ixK hval)) rfl e1 hk
theorem ne_st1 : ¬ (("stamp" : Str) = "size") := by decide +kernel
theorem ne_st2 : ¬ (("stamp" : Str) = "stamps") := by decide +kernel
theorem ne_st3 : ¬ (("stamp" : Str) = "_stamp_of") := by decide +kernel
/-- stock.stamp(name) -/
theorem er_stampCall {σ : L2.St} {H : Hp} {te tn : TE} {C : Addr} {n : Nat} {sts : List (List Nat × List Nat)} {name : List Nat} (h : Er K te σ H (stockC K C (n : Int) sts)) (hn : Er K tn σ H (.s (S name))) (hp : ∃ p ∈ sts, p.1 = name) : Er K (tMeth C "stamp" (sp_stamp K C) [] E0 te (tCons tn tNil)) σ H (.s (S (stampOf sts name))) := fun H1 e Q q =>
  h H1 e _ fun v H2 e2 hz => by
    have hz' : Is K H2 (stockC K C (n : Int) sts) v := hz
    obtain ⟨x, dx, ps, dd, rfl, hx, h3, h4⟩ := hz
    refine ⟨x, dx, _, rfl, hx, ?_, ?_⟩
    · unfold stFlds
      rw [lookup_putF, if_neg ne_st3, lookup_putF, if_neg ne_st2, lookup_putF, if_neg ne_st1]
      rfl
    · refine hn H2 (e.trans e2) _ fun w H3 e3 zw => ⟨(n, sts, name), hp, .cons (hz'.mono e3) (.cons zw .nil), fun v H' e4 z => q v H' ((e2.trans e3).trans e4) z⟩
end
end Mi

set_option maxHeartbeats 4000000
namespace Mi
open PySem PySem.Spec PyProof.Rows L2 Evl
local macro_rules | `(tactic| walk_at "side") => `(tactic| (first | assumption | omega | exact rfl | decide | (simp only [List.length_cons, List.length_nil, List.length_map, List.length_append, List.length_replicate] <;> omega)))
local macro_rules | `(tactic| walk_at "ro") => `(tactic| (first
  | with_reducible exact ro_I0
  | with_reducible exact ro_1018
  | with_reducible exact ro_neC
  | with_reducible exact ro_eqC
  | with_reducible exact ro_neI
  | with_reducible exact ro_eqI
  | with_reducible exact ro_neB
  | with_reducible exact ro_eqB
  | ((with_reducible apply ro_mod); (walk_at "side"))
  | ((with_reducible apply ro_div) <;> (walk_at "side"))
  | ((with_reducible apply ro_divW) <;> (walk_at "side"))
  | with_reducible exact ro_1012
  | with_reducible exact ro_1015
  | ((with_reducible apply ro_mulL) <;> (walk_at "side"))
  | ((with_reducible apply ro_mulR) <;> (walk_at "side"))
  | ((with_reducible apply ro_addC); (walk_at "side"))
  | ((with_reducible apply ro_ixC) <;> (walk_at "side"))
  | ((with_reducible apply ro_ixI) <;> (walk_at "side"))
  | ((with_reducible apply ro_ixIN) <;> (walk_at "side"))
  | ((with_reducible apply ro_ixT2) <;> (walk_at "side"))
  | ((with_reducible apply ro_ixG) <;> (walk_at "side"))
  | ((with_reducible apply ro_eq); exact rfl)
  | ((with_reducible apply ro_ne); exact rfl)
  | with_reducible exact ro_isN
  | with_reducible exact ro_notN
  | with_reducible exact ro_eqL
  | with_reducible exact ro_neL
  | with_reducible exact ro_eqU
  | ((with_reducible apply ro_cat); (walk_at "side"))
  | with_reducible exact ro_inLi
  | with_reducible exact ro_inNi
  | with_reducible exact ro_inUi
  | ((with_reducible apply ro_inL) <;> (walk_at "side"))
  | ((with_reducible apply ro_inN) <;> (walk_at "side"))
  | ((with_reducible apply ro_inU) <;> (walk_at "side"))))
local macro_rules | `(tactic| walk_at "rc") => `(tactic| (first
  | with_reducible exact rc_int
  | with_reducible exact rc_intB
  | with_reducible exact rc_max2
  | ((with_reducible apply rc_lenC); (walk_at "side"))
  | with_reducible exact rc_lenI
  | with_reducible exact rc_lenT
  | with_reducible exact rc_lenIN
  | with_reducible exact rc_lenTN
  | with_reducible exact rc_lenL
  | with_reducible exact rc_lenN
  | with_reducible exact rc_lenU
  | with_reducible exact rc_listL
  | with_reducible exact rc_listU
  | with_reducible exact rc_tupL
  | with_reducible exact rc_tupN
  | ((with_reducible apply rc_isi_int); decide +kernel)
  | ((with_reducible apply rc_isi_str); decide +kernel)
  | ((with_reducible apply rc_isi_bl); decide +kernel)
  | ((with_reducible apply rc_isi_non); decide +kernel)
  | ((with_reducible apply rc_isi_u); decide +kernel)
  | ((with_reducible apply rc_isi_l); decide +kernel)))
local macro_rules | `(tactic| walk_at "er") => `(tactic| (first
  | ((with_reducible apply er_var); (exact rfl); assumption)
  | ((with_reducible apply er_v); exact rfl)
  | with_reducible exact er_c
  | ((with_reducible apply er_pick); (walk_at "er"); (walk_at "er"); (walk_at "er"))
  | ((with_reducible apply er_op); (walk_at "er"); (walk_at "er"); (walk_at "ro"))
  | ((with_reducible apply er_cb); (walk_at "era"); (walk_at "rc"))
  | ((with_reducible apply er_lst'); (walk_at "era"); (exact rfl); (walk_at "side"))
  | ((with_reducible apply er_tup'); (walk_at "era"); (exact rfl); (walk_at "side"))
  | ((with_reducible apply er_notV); (walk_at "er"))
  | ((with_reducible apply er_andV); (walk_at "er"); (intro _; (walk_at "er")))
  | ((with_reducible apply er_orV); (walk_at "er"); (intro _; (walk_at "er")))
  | ((with_reducible apply er_ite); (walk_at "et"); (intro _; (walk_at "er")); (intro _; (walk_at "er")))))
local macro_rules | `(tactic| walk_at "era") => `(tactic| (first
  | with_reducible exact era_nil
  | ((with_reducible apply era_cons); (walk_at "er"); (walk_at "era"))))
local macro_rules | `(tactic| walk_at "et") => `(tactic| (first
  | ((with_reducible apply et_an); (walk_at "et"); (intro _; (walk_at "et")))
  | ((with_reducible apply et_orr); (walk_at "et"); (intro _; (walk_at "et")))
  | ((with_reducible apply et_nt); (walk_at "et"))
  | ((with_reducible apply et1); (walk_at "er"))
  | ((with_reducible apply et2); (walk_at "er"))))

section
variable {P : Program} {w : World} {K : PySem.W.Frag} {mg : Str → Option Value} {base : Heap}
theorem is_cast {K : PySem.W.Frag} {H : Hp} {d d' : Dd} {x : V} (h : Is K H d x) (e : d = d') : Is K H d' x := e ▸ h
/-! ### stock.names -/
abbrev s_Stock_names : Stmt := inClass (topS 27) 1
theorem sc_Stock_names : FnScope ["self", "name", "stamp"] ["self"] (defScope s_Stock_names) := ⟨rfl, rfl, rfl, by decide +kernel, rfl, by decide +kernel, by decide +kernel⟩

abbrev nmV (sts : List (List Nat × List Nat)) : List (List Nat) := sts.map (·.1)
abbrev sp_names (K : PySem.W.Frag) (C : Addr) : Sp := spR K (fun a : Nat × List (List Nat × List Nat) => a.2.length ≤ 1000) (fun a => [stockC K C (a.1 : Int) a.2]) fun a => .u (vsl (nmV a.2))
theorem ok_names {f C : Addr} {fd : FuncData} (F : Fun K "names" "Stock.names" s_Stock_names f fd) (T : Txt K mg) (TS : StTxt K mg C) : FnOk P w K mg base CX0 1 f fd ["self"] (sp_names K C) := by
  have sc := sc_Stock_names
  refine F.ok sc (fun vs H Q E h => ?_) (fun cdv A outer s H vs Q E hr h => ?_)
  · obtain ⟨a, _, hv, _⟩ := h
    rcases hv with _ | ⟨_, _ | _⟩
    rfl
  obtain ⟨⟨n, sts⟩, hp, hv, hk⟩ := h
  replace hp : sts.length ≤ 1000 := hp
  rcases hv with _ | ⟨hx, _ | _⟩
  rename_i x
  replace hx : Is K H (stockC K C (n : Int) sts) x := hx
  refine ⟨_, (pss_one (ps_ret (pe_callTy (cr_tuple_k (K := K)) (by rfl) T.b_tuple (by decide +kernel) (pa_cons (pe_lc (own := [("name", 1), ("stamp", 2)]) (g := gTup K 2 (gCons (gName 1) (gCons (gName 2) gNil))) (by rfl) sc.nd (pi_tup_k (K := K) (pe_fld (pv 0) rfl)) (blkOk_by (N := ["self", "name", "stamp"]) (sc := defScope s_Stock_names) (own := [("name", 1), ("stamp", 2)]) (by decide +kernel)) (fun _ _ _ _ _ => (pg_tup rfl (pgs_cons (pg_name (i := 1) sc.nd rfl (Or.inl rfl)) (pgs_cons (pg_name (i := 2) sc.nd rfl (Or.inl rfl)) pgs_nil)))) (fun _ _ _ _ _ => pts_nil) (fun _ _ _ _ _ => (pv 1))) pa_nil)))), ?_⟩
  refine a_rete (K := K) (d := .u (vsl (nmV sts))) (Er.as (Ef.er (ef_cb (efa_cons (ef_lc (K := K) (G := H) (its := sts) (inj := fun p => Dd.U [.s (S p.1), .s (S p.2)]) (vs := [1, 2]) (fun _ => true) (fun p => Dd.s (S p.1)) (if_tup (ef_stamps TS.cl TS.nT (Ef.as (ef_var (i := 0) rfl hx) fun Hx v z => stockC_D z))) (by omega) (fun i p v G' A' g1 g2 hi hv => ?_)) efa_nil) rf_tupN)) fun Hx v z => ?_) rfl (Ex.refl H) hk
  · refine ⟨[some x, some (.str (S p.1)), some (.str (S p.2))], fun Q q => g_two g2 hv fun v1 v2 h1 h2 => ?_, rfl, fun H2 e Q q => q H2 (Ex.refl _), fun _ => ?_⟩
    · obtain rfl : v1 = V.str (S p.1) := h1
      obtain rfl : v2 = V.str (S p.2) := h2
      exact q
    · exact ef_flat (er_v rfl)
  · rw [filt_true] at z
    refine Is.U2u (is_cast z ?_)
    congr 1
    rw [nmV, vsl, vss, List.map_map, List.map_map, List.map_map]
    rfl
end
end Mi

set_option maxHeartbeats 4000000
namespace Mi
open PySem PySem.Spec PyProof.Rows L2 Evl
local macro_rules | `(tactic| walk_at "side") => `(tactic| (first | assumption | omega | exact rfl | decide | (simp only [List.length_cons, List.length_nil, List.length_map, List.length_append, List.length_replicate] <;> omega)))
local macro_rules | `(tactic| walk_at "ro") => `(tactic| (first
  | with_reducible exact ro_I0
  | with_reducible exact ro_1018
  | with_reducible exact ro_neC
  | with_reducible exact ro_eqC
  | with_reducible exact ro_neI
  | with_reducible exact ro_eqI
  | with_reducible exact ro_neB
  | with_reducible exact ro_eqB
  | ((with_reducible apply ro_mod); (walk_at "side"))
  | ((with_reducible apply ro_div) <;> (walk_at "side"))
  | ((with_reducible apply ro_divW) <;> (walk_at "side"))
  | with_reducible exact ro_1012
  | with_reducible exact ro_1015
  | ((with_reducible apply ro_mulL) <;> (walk_at "side"))
  | ((with_reducible apply ro_mulR) <;> (walk_at "side"))
  | ((with_reducible apply ro_addC); (walk_at "side"))
  | ((with_reducible apply ro_ixC) <;> (walk_at "side"))
  | ((with_reducible apply ro_ixI) <;> (walk_at "side"))
  | ((with_reducible apply ro_ixIN) <;> (walk_at "side"))
  | ((with_reducible apply ro_ixT2) <;> (walk_at "side"))
  | ((with_reducible apply ro_ixG) <;> (walk_at "side"))
  | ((with_reducible apply ro_eq); exact rfl)
  | ((with_reducible apply ro_ne); exact rfl)
  | with_reducible exact ro_isN
  | with_reducible exact ro_notN
  | with_reducible exact ro_eqL
  | with_reducible exact ro_neL
  | with_reducible exact ro_eqU
  | ((with_reducible apply ro_cat); (walk_at "side"))
  | with_reducible exact ro_inLi
  | with_reducible exact ro_inNi
  | with_reducible exact ro_inUi
  | ((with_reducible apply ro_inL) <;> (walk_at "side"))
  | ((with_reducible apply ro_inN) <;> (walk_at "side"))
  | ((with_reducible apply ro_inU) <;> (walk_at "side"))))
local macro_rules | `(tactic| walk_at "rc") => `(tactic| (first
  | with_reducible exact rc_int
  | with_reducible exact rc_intB
  | with_reducible exact rc_max2
  | ((with_reducible apply rc_lenC); (walk_at "side"))
  | with_reducible exact rc_lenI
  | with_reducible exact rc_lenT
  | with_reducible exact rc_lenIN
  | with_reducible exact rc_lenTN
  | with_reducible exact rc_lenL
  | with_reducible exact rc_lenN
  | with_reducible exact rc_lenU
  | with_reducible exact rc_listL
  | with_reducible exact rc_listU
  | with_reducible exact rc_tupL
  | with_reducible exact rc_tupN
  | ((with_reducible apply rc_isi_int); decide +kernel)
  | ((with_reducible apply rc_isi_str); decide +kernel)
  | ((with_reducible apply rc_isi_bl); decide +kernel)
  | ((with_reducible apply rc_isi_non); decide +kernel)
  | ((with_reducible apply rc_isi_u); decide +kernel)
  | ((with_reducible apply rc_isi_l); decide +kernel)))
local macro_rules | `(tactic| walk_at "er") => `(tactic| (first
  | ((with_reducible apply er_var); (exact rfl); assumption)
  | ((with_reducible apply er_v); exact rfl)
  | with_reducible exact er_c
  | ((with_reducible apply er_pick); (walk_at "er"); (walk_at "er"); (walk_at "er"))
  | ((with_reducible apply er_op); (walk_at "er"); (walk_at "er"); (walk_at "ro"))
  | ((with_reducible apply er_cb); (walk_at "era"); (walk_at "rc"))
  | ((with_reducible apply er_lst'); (walk_at "era"); (exact rfl); (walk_at "side"))
  | ((with_reducible apply er_tup'); (walk_at "era"); (exact rfl); (walk_at "side"))
  | ((with_reducible apply er_notV); (walk_at "er"))
  | ((with_reducible apply er_andV); (walk_at "er"); (intro _; (walk_at "er")))
  | ((with_reducible apply er_orV); (walk_at "er"); (intro _; (walk_at "er")))
  | ((with_reducible apply er_ite); (walk_at "et"); (intro _; (walk_at "er")); (intro _; (walk_at "er")))))
local macro_rules | `(tactic| walk_at "era") => `(tactic| (first
  | with_reducible exact era_nil
  | ((with_reducible apply era_cons); (walk_at "er"); (walk_at "era"))))
local macro_rules | `(tactic| walk_at "et") => `(tactic| (first
  | ((with_reducible apply et_an); (walk_at "et"); (intro _; (walk_at "et")))
  | ((with_reducible apply et_orr); (walk_at "et"); (intro _; (walk_at "et")))
  | ((with_reducible apply et_nt); (walk_at "et"))
  | ((with_reducible apply et1); (walk_at "er"))
  | ((with_reducible apply et2); (walk_at "er"))))

section
variable {P : Program} {w : World} {K : PySem.W.Frag} {mg : Str → Option Value} {base : Heap}
abbrev tsD (ns : List (List Nat)) : List Dd := ns.map fun l => Dd.s (S l)
theorem tsD_vsl {ns : List (List Nat)} : (vsl ns).map Dd.v = tsD ns := by
  rw [vsl, vss, List.map_map, List.map_map]
  rfl
theorem tsD_at {ns : List (List Nat)} {i : Nat} {d : Dd} (h : (tsD ns)[i]? = some d) : ∃ n, ns[i]? = some n ∧ d = Dd.s (S n) := by
  rw [List.getElem?_map] at h
  cases q : ns[i]? with
  | none => rw [q] at h; cases h
  | some p => rw [q] at h; exact ⟨p, rfl, (Option.some.inj h).symm⟩
theorem prD_of {st : List (List Nat × List Nat)} {i : Nat} {d : Dd} (h : (prD st)[i]? = some d) : ∃ p, st[i]? = some p ∧ d = Dd.U [.s (S p.1), .s (S p.2)] := by
  rw [List.getElem?_map] at h
  cases q : st[i]? with
  | none => rw [q] at h; cases h
  | some p => rw [q] at h; exact ⟨p, rfl, (Option.some.inj h).symm⟩
/-- stock.names -/
theorem er_names {σ : L2.St} {H : Hp} {te : TE} {C : Addr} {n : Nat} {sts : List (List Nat × List Nat)} (h : Er K te σ H (stockC K C (n : Int) sts)) (hp : sts.length ≤ 1000) : Er K (tProp C (sp_names K C) [] E0 te) σ H (.U (tsD (nmV sts))) := fun H1 e Q q =>
  h H1 e _ fun v H2 e2 hz => by
    have hz' : Is K H2 (stockC K C (n : Int) sts) v := hz
    obtain ⟨x, dx, ps, dd, rfl, hx, h3, h4⟩ := hz
    refine ⟨x, dx, _, rfl, hx, (n, sts), hp, .cons hz' .nil, fun v H' e4 z => q v H' (e2.trans e4) ?_⟩
    rw [← tsD_vsl]
    exact Is.u2U z
abbrev sp_wo (K : PySem.W.Frag) : Sp := spR K (fun a : List (List Nat) × List Nat => a.1.length ≤ 1000) (fun a => [.U (tsD a.1), .s (S a.2)]) fun a => .U (tsD (wo a.1 a.2))
/-! ### what is left of all stamps -/
structure StOk (size : Nat) (sts : List (List Nat × List Nat)) : Prop where
  few : sts.length ≤ 1000
  st : ∀ p ∈ sts, p.2.length = size
  sz : size ≤ 1000
  di : (sts.map (·.1)).Nodup
def leftG (sts : List (List Nat × List Nat)) (seen : List Nat) : List Nat := sts.foldl (fun l p => freeM l p.2) seen
theorem leftG_next {sts : List (List Nat × List Nat)} {seen : List Nat} {i : Nat} {p : List Nat × List Nat} (h : sts[i]? = some p) : leftG (sts.take (i + 1)) seen = freeM (leftG (sts.take i) seen) p.2 := by
  unfold leftG
  rw [List.take_add_one, h, List.foldl_append]
  rfl
theorem freeM_ln {a b : List Nat} (h : a.length = b.length) : (freeM a b).length = a.length := frQ_len h
abbrev sp_left (K : PySem.W.Frag) (C : Addr) : Sp := spR K (fun a : Nat × List (List Nat × List Nat) × List Nat => StOk a.2.2.length a.2.1) (fun a => [stockC K C (a.1 : Int) a.2.1, .s (S a.2.2)]) fun a => .s (S (leftG a.2.1 a.2.2))
/-! ### the first name that lies on top of all -/
def nameO : Option (List Nat) → V
  | none => .non
  | some n => .str (S n)
theorem find_nx {α : Type} {l : List α} {p : α → Bool} {i : Nat} {x : α} (h : l[i]? = some x) (hn : (l.take i).find? p = none) : (l.take (i + 1)).find? p = if p x = true then some x else none := by
  rw [List.take_add_one, h, List.find?_append, hn]
  simp [List.find?_cons]
  split <;> simp_all
theorem find_tk {α : Type} {l : List α} {p : α → Bool} {i : Nat} {x : α} (h : (l.take i).find? p = some x) : l.find? p = some x := by
  have e : l = l.take i ++ l.drop i := (List.take_append_drop _ _).symm
  rw [e, List.find?_append, h]
  rfl
theorem bD_eq {α : Type} {ls : List α} {f : α → Bool} : ((ls.filter fun _ => true).map fun l => Dd.b (f l)) = ((ls.map f).map V.bl).map Dd.v := by
  rw [filt_true, List.map_map, List.map_map]
  rfl
abbrev sp_fon (K : PySem.W.Frag) (C : Addr) : Sp := spR K (fun a : (Nat × List (List Nat × List Nat)) × List (List Nat) × List (List Nat) => (a.2.1.length ≤ 1000 ∧ a.2.2.length ≤ 1000) ∧ ∀ n ∈ a.2.2, ∃ p ∈ a.1.2, p.1 = n) (fun a => [stockC K C (a.1.1 : Int) a.1.2, .L (tsD a.2.1), .U (tsD a.2.2)]) fun a => .v (nameO (a.2.2.find? (agA (stampOf a.1.2) a.2.1)))
end
end Mi

set_option maxHeartbeats 4000000
namespace Mi
open PySem PySem.Spec PyProof.Rows L2 Evl
local macro_rules | `(tactic| walk_at "side") => `(tactic| (first | assumption | omega | exact rfl | decide | (simp only [List.length_cons, List.length_nil, List.length_map, List.length_append, List.length_replicate] <;> omega)))
local macro_rules | `(tactic| walk_at "ro") => `(tactic| (first
  | with_reducible exact ro_I0
  | with_reducible exact ro_1018
  | with_reducible exact ro_neC
  | with_reducible exact ro_eqC
  | with_reducible exact ro_neI
  | with_reducible exact ro_eqI
  | with_reducible exact ro_neB
  | with_reducible exact ro_eqB
  | ((with_reducible apply ro_mod); (walk_at "side"))
  | ((with_reducible apply ro_div) <;> (walk_at "side"))
  | ((with_reducible apply ro_divW) <;> (walk_at "side"))
  | with_reducible exact ro_1012
  | with_reducible exact ro_1015
  | ((with_reducible apply ro_mulL) <;> (walk_at "side"))
  | ((with_reducible apply ro_mulR) <;> (walk_at "side"))
  | ((with_reducible apply ro_addC); (walk_at "side"))
  | ((with_reducible apply ro_ixC) <;> (walk_at "side"))
  | ((with_reducible apply ro_ixI) <;> (walk_at "side"))
  | ((with_reducible apply ro_ixIN) <;> (walk_at "side"))
  | ((with_reducible apply ro_ixT2) <;> (walk_at "side"))
  | ((with_reducible apply ro_ixG) <;> (walk_at "side"))
  | ((with_reducible apply ro_eq); exact rfl)
  | ((with_reducible apply ro_ne); exact rfl)
  | with_reducible exact ro_isN
  | with_reducible exact ro_notN
  | with_reducible exact ro_eqL
  | with_reducible exact ro_neL
  | with_reducible exact ro_eqU
  | ((with_reducible apply ro_cat); (walk_at "side"))
  | with_reducible exact ro_inLi
  | with_reducible exact ro_inNi
  | with_reducible exact ro_inUi
  | ((with_reducible apply ro_inL) <;> (walk_at "side"))
  | ((with_reducible apply ro_inN) <;> (walk_at "side"))
  | ((with_reducible apply ro_inU) <;> (walk_at "side"))))
local macro_rules | `(tactic| walk_at "rc") => `(tactic| (first
  | with_reducible exact rc_int
  | with_reducible exact rc_intB
  | with_reducible exact rc_max2
  | ((with_reducible apply rc_lenC); (walk_at "side"))
  | with_reducible exact rc_lenI
  | with_reducible exact rc_lenT
  | with_reducible exact rc_lenIN
  | with_reducible exact rc_lenTN
  | with_reducible exact rc_lenL
  | with_reducible exact rc_lenN
  | with_reducible exact rc_lenU
  | with_reducible exact rc_listL
  | with_reducible exact rc_listU
  | with_reducible exact rc_tupL
  | with_reducible exact rc_tupN
  | ((with_reducible apply rc_isi_int); decide +kernel)
  | ((with_reducible apply rc_isi_str); decide +kernel)
  | ((with_reducible apply rc_isi_bl); decide +kernel)
  | ((with_reducible apply rc_isi_non); decide +kernel)
  | ((with_reducible apply rc_isi_u); decide +kernel)
  | ((with_reducible apply rc_isi_l); decide +kernel)))
local macro_rules | `(tactic| walk_at "er") => `(tactic| (first
  | ((with_reducible apply er_var); (exact rfl); assumption)
  | ((with_reducible apply er_v); exact rfl)
  | with_reducible exact er_c
  | ((with_reducible apply er_pick); (walk_at "er"); (walk_at "er"); (walk_at "er"))
  | ((with_reducible apply er_op); (walk_at "er"); (walk_at "er"); (walk_at "ro"))
  | ((with_reducible apply er_cb); (walk_at "era"); (walk_at "rc"))
  | ((with_reducible apply er_lst'); (walk_at "era"); (exact rfl); (walk_at "side"))
  | ((with_reducible apply er_tup'); (walk_at "era"); (exact rfl); (walk_at "side"))
  | ((with_reducible apply er_notV); (walk_at "er"))
  | ((with_reducible apply er_andV); (walk_at "er"); (intro _; (walk_at "er")))
  | ((with_reducible apply er_orV); (walk_at "er"); (intro _; (walk_at "er")))
  | ((with_reducible apply er_ite); (walk_at "et"); (intro _; (walk_at "er")); (intro _; (walk_at "er")))))
local macro_rules | `(tactic| walk_at "era") => `(tactic| (first
  | with_reducible exact era_nil
  | ((with_reducible apply era_cons); (walk_at "er"); (walk_at "era"))))
local macro_rules | `(tactic| walk_at "et") => `(tactic| (first
  | ((with_reducible apply et_an); (walk_at "et"); (intro _; (walk_at "et")))
  | ((with_reducible apply et_orr); (walk_at "et"); (intro _; (walk_at "et")))
  | ((with_reducible apply et_nt); (walk_at "et"))
  | ((with_reducible apply et1); (walk_at "er"))
  | ((with_reducible apply et2); (walk_at "er"))))

section
variable {P : Program} {w : World} {K : PySem.W.Frag} {mg : Str → Option Value} {base : Heap}
/-! ### peeled off all layers at once -/
structure NmOk (sts : List (List Nat × List Nat)) (ns : List (List Nat)) : Prop where
  few : ns.length ≤ 1000
  di : ns.Nodup
  ok : ∀ n ∈ ns, ∃ p ∈ sts, p.1 = n
structure LsOk (ls : List (List Nat)) : Prop where
  few : ls.length ≤ 1000
  ln : ∀ l ∈ ls, l.length ≤ 1000
theorem NmOk.wo {sts : List (List Nat × List Nat)} {ns : List (List Nat)} (h : NmOk sts ns) (n : List Nat) : NmOk sts (wo ns n) :=
  ⟨Nat.le_trans (List.length_filter_le _ _) h.few, h.di.filter _, fun m hm => h.ok m (List.mem_filter.mp hm).1⟩
theorem freeM_le {a b : List Nat} : (freeM a b).length ≤ a.length := by
  unfold freeM
  rw [List.length_map, List.length_zip]
  omega
theorem LsOk.pl {sts : List (List Nat × List Nat)} {ls : List (List Nat)} (h : LsOk ls) (n : List Nat) : LsOk (plA (stampOf sts) ls n) := by
  refine ⟨by unfold plA; rw [List.length_map]; exact h.few, fun l hl => ?_⟩
  obtain ⟨x, hx, rfl⟩ := List.mem_map.mp hl
  exact Nat.le_trans freeM_le (h.ln x hx)
abbrev stuckS (sts : List (List Nat × List Nat)) (ls ns : List (List Nat)) : List (List Nat) := stuckG (stampOf sts) ns.length ls ns
theorem stuckS_none {sts : List (List Nat × List Nat)} {ls ns : List (List Nat)} (h : ns.find? (agA (stampOf sts) ls) = none) : stuckS sts ls ns = ns := by
  unfold stuckS
  cases e : ns.length with
  | zero => rfl
  | succ k =>
    unfold stuckG
    rw [h]
theorem stuckS_some {sts : List (List Nat × List Nat)} {ls ns : List (List Nat)} {n : List Nat} (hd : ns.Nodup) (h : ns.find? (agA (stampOf sts) ls) = some n) : stuckS sts ls ns = stuckS sts (plA (stampOf sts) ls n) (wo ns n) := by
  have hm := List.mem_of_find?_eq_some h
  have hl := wo_len hd hm
  unfold stuckS
  rw [← hl]
  conv => lhs; unfold stuckG
  rw [h]
  rfl
abbrev sp_stuck (K : PySem.W.Frag) (C : Addr) : Sp := spR K (fun a : (Nat × List (List Nat × List Nat)) × List (List Nat) × List (List Nat) => LsOk a.2.1 ∧ NmOk a.1.2 a.2.2) (fun a => [stockC K C (a.1.1 : Int) a.1.2, .L (tsD a.2.1), .U (tsD a.2.2)]) fun a => .U (tsD (stuckS a.1.2 a.2.1 a.2.2))
end
end Mi

set_option maxHeartbeats 4000000
namespace Mi
open PySem PySem.Spec PyProof.Rows L2 Evl
local macro_rules | `(tactic| walk_at "side") => `(tactic| (first | assumption | omega | exact rfl | decide | (simp only [List.length_cons, List.length_nil, List.length_map, List.length_append, List.length_replicate] <;> omega)))
local macro_rules | `(tactic| walk_at "ro") => `(tactic| (first
  | with_reducible exact ro_I0
  | with_reducible exact ro_1018
  | with_reducible exact ro_neC
  | with_reducible exact ro_eqC
  | with_reducible exact ro_neI
  | with_reducible exact ro_eqI
  | with_reducible exact ro_neB
  | with_reducible exact ro_eqB
  | ((with_reducible apply ro_mod); (walk_at "side"))
  | ((with_reducible apply ro_div) <;> (walk_at "side"))
  | ((with_reducible apply ro_divW) <;> (walk_at "side"))
  | with_reducible exact ro_1012
  | with_reducible exact ro_1015
  | ((with_reducible apply ro_mulL) <;> (walk_at "side"))
  | ((with_reducible apply ro_mulR) <;> (walk_at "side"))
  | ((with_reducible apply ro_addC); (walk_at "side"))
  | ((with_reducible apply ro_ixC) <;> (walk_at "side"))
  | ((with_reducible apply ro_ixI) <;> (walk_at "side"))
  | ((with_reducible apply ro_ixIN) <;> (walk_at "side"))
  | ((with_reducible apply ro_ixT2) <;> (walk_at "side"))
  | ((with_reducible apply ro_ixG) <;> (walk_at "side"))
  | ((with_reducible apply ro_eq); exact rfl)
  | ((with_reducible apply ro_ne); exact rfl)
  | with_reducible exact ro_isN
  | with_reducible exact ro_notN
  | with_reducible exact ro_eqL
  | with_reducible exact ro_neL
  | with_reducible exact ro_eqU
  | ((with_reducible apply ro_cat); (walk_at "side"))
  | with_reducible exact ro_inLi
  | with_reducible exact ro_inNi
  | with_reducible exact ro_inUi
  | ((with_reducible apply ro_inL) <;> (walk_at "side"))
  | ((with_reducible apply ro_inN) <;> (walk_at "side"))
  | ((with_reducible apply ro_inU) <;> (walk_at "side"))))
local macro_rules | `(tactic| walk_at "rc") => `(tactic| (first
  | with_reducible exact rc_int
  | with_reducible exact rc_intB
  | with_reducible exact rc_max2
  | ((with_reducible apply rc_lenC); (walk_at "side"))
  | with_reducible exact rc_lenI
  | with_reducible exact rc_lenT
  | with_reducible exact rc_lenIN
  | with_reducible exact rc_lenTN
  | with_reducible exact rc_lenL
  | with_reducible exact rc_lenN
  | with_reducible exact rc_lenU
  | with_reducible exact rc_listL
  | with_reducible exact rc_listU
  | with_reducible exact rc_tupL
  | with_reducible exact rc_tupN
  | ((with_reducible apply rc_isi_int); decide +kernel)
  | ((with_reducible apply rc_isi_str); decide +kernel)
  | ((with_reducible apply rc_isi_bl); decide +kernel)
  | ((with_reducible apply rc_isi_non); decide +kernel)
  | ((with_reducible apply rc_isi_u); decide +kernel)
  | ((with_reducible apply rc_isi_l); decide +kernel)))
local macro_rules | `(tactic| walk_at "er") => `(tactic| (first
  | ((with_reducible apply er_var); (exact rfl); assumption)
  | ((with_reducible apply er_v); exact rfl)
  | with_reducible exact er_c
  | ((with_reducible apply er_pick); (walk_at "er"); (walk_at "er"); (walk_at "er"))
  | ((with_reducible apply er_op); (walk_at "er"); (walk_at "er"); (walk_at "ro"))
  | ((with_reducible apply er_cb); (walk_at "era"); (walk_at "rc"))
  | ((with_reducible apply er_lst'); (walk_at "era"); (exact rfl); (walk_at "side"))
  | ((with_reducible apply er_tup'); (walk_at "era"); (exact rfl); (walk_at "side"))
  | ((with_reducible apply er_notV); (walk_at "er"))
  | ((with_reducible apply er_andV); (walk_at "er"); (intro _; (walk_at "er")))
  | ((with_reducible apply er_orV); (walk_at "er"); (intro _; (walk_at "er")))
  | ((with_reducible apply er_ite); (walk_at "et"); (intro _; (walk_at "er")); (intro _; (walk_at "er")))))
local macro_rules | `(tactic| walk_at "era") => `(tactic| (first
  | with_reducible exact era_nil
  | ((with_reducible apply era_cons); (walk_at "er"); (walk_at "era"))))
local macro_rules | `(tactic| walk_at "et") => `(tactic| (first
  | ((with_reducible apply et_an); (walk_at "et"); (intro _; (walk_at "et")))
  | ((with_reducible apply et_orr); (walk_at "et"); (intro _; (walk_at "et")))
  | ((with_reducible apply et_nt); (walk_at "et"))
  | ((with_reducible apply et1); (walk_at "er"))
  | ((with_reducible apply et2); (walk_at "er"))))

section
variable {P : Program} {w : World} {K : PySem.W.Frag} {mg : Str → Option Value} {base : Heap}
/-! ### pairs of layers, lists or tuples -/
abbrev sqD (b : Bool) (ds : List Dd) : Dd := match b with
  | true => .U ds
  | false => .N ds
theorem sq_is (b : Bool) (ds : List Dd) : Sq (sqD b ds) ds := by
  cases b
  · exact .N ds
  · exact .U ds
theorem if_sq {σ : L2.St} {G : Hp} {b : Bool} {ds : List Dd} {i : Nat} {x : V} (hx : σ[i]? = some (some x)) (h : Is K G (sqD b ds) x) : Itf K (iSeqV K i) σ G ds := by
  cases b
  · exact if_seqL hx (Is.N2L h)
  · exact if_seqU hx h
abbrev pD (b : Bool) (p : List Nat × List Nat) : Dd := sqD b [.s (S p.1), .s (S p.2)]
abbrev gpD (b1 b2 : Bool) (ps : List (List Nat × List Nat)) : Dd := sqD b1 (ps.map (pD b2))
structure PsOk (n : Nat) (ps : List (List Nat × List Nat)) : Prop where
  few : ps.length ≤ 1000
  ln : ∀ p ∈ ps, p.1.length = n ∧ p.2.length = n
abbrev seenM (ps : List (List Nat × List Nat)) : List (List Nat) := ps.map (·.2)
theorem PsOk.ls {n : Nat} {ps : List (List Nat × List Nat)} (h : PsOk n ps) (hn : n ≤ 1000) : LsOk (seenM ps) := by
  refine ⟨by rw [List.length_map]; exact h.few, fun l hl => ?_⟩
  obtain ⟨p, hp, rfl⟩ := List.mem_map.mp hl
  have := (h.ln p hp).2
  omega
theorem PsOk.siz {n : Nat} {ps : List (List Nat × List Nat)} (h : PsOk n ps) : Siz n (seenM ps) := by
  intro l hl
  obtain ⟨p, hp, rfl⟩ := List.mem_map.mp hl
  exact (h.ln p hp).2
theorem StOk.nm {n : Nat} {sts : List (List Nat × List Nat)} (h : StOk n sts) : NmOk sts (nmV sts) :=
  ⟨by rw [nmV, List.length_map]; exact h.few, h.di, fun m hm => by
    obtain ⟨p, hp, rfl⟩ := List.mem_map.mp hm
    exact ⟨p, hp, rfl⟩⟩
theorem StOk.stl {n : Nat} {sts : List (List Nat × List Nat)} (h : StOk n sts) {m : List Nat} (hm : ∃ p ∈ sts, p.1 = m) : (stampOf sts m).length = n := by
  obtain ⟨p, hp, e, _⟩ := stampOf_is hm
  rw [e]
  exact h.st p hp
theorem seen_eq {ps : List (List Nat × List Nat)} : ((ps.filter fun _ => true).map fun p => Dd.s (S p.2)) = tsD (seenM ps) := by
  rw [filt_true, tsD, seenM, List.map_map]
  rfl
abbrev sp_cs (K : PySem.W.Frag) (C : Addr) : Sp := spR K (fun a : (Nat × List (List Nat × List Nat)) × (Bool × Bool) × List (List Nat × List Nat) => StOk a.1.1 a.1.2 ∧ PsOk a.1.1 a.2.2) (fun a => [stockC K C (a.1.1 : Int) a.1.2, gpD a.2.1.1 a.2.1.2 a.2.2]) fun a => .U (tsD (stuckS a.1.2 (seenM a.2.2) (nmV a.1.2)))
abbrev lowM (sts : List (List Nat × List Nat)) (ls ns : List (List Nat)) : Option (List Nat) := ns.find? fun n => decide (CP (stampOf sts) ls (wo ns n))
abbrev sp_ftp (K : PySem.W.Frag) (C : Addr) : Sp := spR K (fun a : (Nat × List (List Nat × List Nat)) × List (List Nat) × List (List Nat) => LsOk a.2.1 ∧ NmOk a.1.2 a.2.2) (fun a => [stockC K C (a.1.1 : Int) a.1.2, .L (tsD a.2.1), .U (tsD a.2.2)]) fun a => .v (nameO (lowM a.1.2 a.2.1 a.2.2))
end
end Mi

set_option maxHeartbeats 4000000
namespace Mi
open PySem PySem.Spec PyProof.Rows L2 Evl
local macro_rules | `(tactic| walk_at "side") => `(tactic| (first | assumption | omega | exact rfl | decide | (simp only [List.length_cons, List.length_nil, List.length_map, List.length_append, List.length_replicate] <;> omega)))
local macro_rules | `(tactic| walk_at "ro") => `(tactic| (first
  | with_reducible exact ro_I0
  | with_reducible exact ro_1018
  | with_reducible exact ro_neC
  | with_reducible exact ro_eqC
  | with_reducible exact ro_neI
  | with_reducible exact ro_eqI
  | with_reducible exact ro_neB
  | with_reducible exact ro_eqB
  | ((with_reducible apply ro_mod); (walk_at "side"))
  | ((with_reducible apply ro_div) <;> (walk_at "side"))
  | ((with_reducible apply ro_divW) <;> (walk_at "side"))
  | with_reducible exact ro_1012
  | with_reducible exact ro_1015
  | ((with_reducible apply ro_mulL) <;> (walk_at "side"))
  | ((with_reducible apply ro_mulR) <;> (walk_at "side"))
  | ((with_reducible apply ro_addC); (walk_at "side"))
  | ((with_reducible apply ro_ixC) <;> (walk_at "side"))
  | ((with_reducible apply ro_ixI) <;> (walk_at "side"))
  | ((with_reducible apply ro_ixIN) <;> (walk_at "side"))
  | ((with_reducible apply ro_ixT2) <;> (walk_at "side"))
  | ((with_reducible apply ro_ixG) <;> (walk_at "side"))
  | ((with_reducible apply ro_eq); exact rfl)
  | ((with_reducible apply ro_ne); exact rfl)
  | with_reducible exact ro_isN
  | with_reducible exact ro_notN
  | with_reducible exact ro_eqL
  | with_reducible exact ro_neL
  | with_reducible exact ro_eqU
  | ((with_reducible apply ro_cat); (walk_at "side"))
  | with_reducible exact ro_inLi
  | with_reducible exact ro_inNi
  | with_reducible exact ro_inUi
  | ((with_reducible apply ro_inL) <;> (walk_at "side"))
  | ((with_reducible apply ro_inN) <;> (walk_at "side"))
  | ((with_reducible apply ro_inU) <;> (walk_at "side"))))
local macro_rules | `(tactic| walk_at "rc") => `(tactic| (first
  | with_reducible exact rc_int
  | with_reducible exact rc_intB
  | with_reducible exact rc_max2
  | ((with_reducible apply rc_lenC); (walk_at "side"))
  | with_reducible exact rc_lenI
  | with_reducible exact rc_lenT
  | with_reducible exact rc_lenIN
  | with_reducible exact rc_lenTN
  | with_reducible exact rc_lenL
  | with_reducible exact rc_lenN
  | with_reducible exact rc_lenU
  | with_reducible exact rc_listL
  | with_reducible exact rc_listU
  | with_reducible exact rc_tupL
  | with_reducible exact rc_tupN
  | ((with_reducible apply rc_isi_int); decide +kernel)
  | ((with_reducible apply rc_isi_str); decide +kernel)
  | ((with_reducible apply rc_isi_bl); decide +kernel)
  | ((with_reducible apply rc_isi_non); decide +kernel)
  | ((with_reducible apply rc_isi_u); decide +kernel)
  | ((with_reducible apply rc_isi_l); decide +kernel)))
local macro_rules | `(tactic| walk_at "er") => `(tactic| (first
  | ((with_reducible apply er_var); (exact rfl); assumption)
  | ((with_reducible apply er_v); exact rfl)
  | with_reducible exact er_c
  | ((with_reducible apply er_pick); (walk_at "er"); (walk_at "er"); (walk_at "er"))
  | ((with_reducible apply er_op); (walk_at "er"); (walk_at "er"); (walk_at "ro"))
  | ((with_reducible apply er_cb); (walk_at "era"); (walk_at "rc"))
  | ((with_reducible apply er_lst'); (walk_at "era"); (exact rfl); (walk_at "side"))
  | ((with_reducible apply er_tup'); (walk_at "era"); (exact rfl); (walk_at "side"))
  | ((with_reducible apply er_notV); (walk_at "er"))
  | ((with_reducible apply er_andV); (walk_at "er"); (intro _; (walk_at "er")))
  | ((with_reducible apply er_orV); (walk_at "er"); (intro _; (walk_at "er")))
  | ((with_reducible apply er_ite); (walk_at "et"); (intro _; (walk_at "er")); (intro _; (walk_at "er")))))
local macro_rules | `(tactic| walk_at "era") => `(tactic| (first
  | with_reducible exact era_nil
  | ((with_reducible apply era_cons); (walk_at "er"); (walk_at "era"))))
local macro_rules | `(tactic| walk_at "et") => `(tactic| (first
  | ((with_reducible apply et_an); (walk_at "et"); (intro _; (walk_at "et")))
  | ((with_reducible apply et_orr); (walk_at "et"); (intro _; (walk_at "et")))
  | ((with_reducible apply et_nt); (walk_at "et"))
  | ((with_reducible apply et1); (walk_at "er"))
  | ((with_reducible apply et2); (walk_at "er"))))

section
variable {P : Program} {w : World} {K : PySem.W.Frag} {mg : Str → Option Value} {base : Heap}
/-! ### texts compared -/
theorem ro_ixSq {b : Bool} {ds : List Dd} {i : Nat} {d : Dd} (hd : ds[i]? = some d) : Ro K (rIxE K) (sqD b ds) (.i (i : Int)) d := ro_ixE (sq_is b ds) hd
/-! ### all stamps pressed, one after the other -/
def pressE (sts : List (List Nat × List Nat)) (x : List Nat) : List Nat := sts.foldl (fun l p => pressM l p.2) x
theorem pressE_next {sts : List (List Nat × List Nat)} {x : List Nat} {i : Nat} {p : List Nat × List Nat} (h : sts[i]? = some p) : pressE (sts.take (i + 1)) x = pressM (pressE (sts.take i) x) p.2 := by
  unfold pressE
  rw [List.take_add_one, h, List.foldl_append]
  rfl
abbrev eD (p : List Nat × List Nat) : Dd := Dd.L [.s (S p.1), .s (S p.2)]
theorem stD_eq {st : List (List Nat × List Nat)} : stD st = st.map eD := rfl
end
end Mi

set_option maxHeartbeats 4000000
namespace Mi
open PySem PySem.Spec PyProof.Rows L2 Evl
local macro_rules | `(tactic| walk_at "side") => `(tactic| (first | assumption | omega | exact rfl | decide | (simp only [List.length_cons, List.length_nil, List.length_map, List.length_append, List.length_replicate] <;> omega)))
local macro_rules | `(tactic| walk_at "ro") => `(tactic| (first
  | with_reducible exact ro_I0
  | with_reducible exact ro_1018
  | with_reducible exact ro_neC
  | with_reducible exact ro_eqC
  | with_reducible exact ro_neI
  | with_reducible exact ro_eqI
  | with_reducible exact ro_neB
  | with_reducible exact ro_eqB
  | ((with_reducible apply ro_mod); (walk_at "side"))
  | ((with_reducible apply ro_div) <;> (walk_at "side"))
  | ((with_reducible apply ro_divW) <;> (walk_at "side"))
  | with_reducible exact ro_1012
  | with_reducible exact ro_1015
  | ((with_reducible apply ro_mulL) <;> (walk_at "side"))
  | ((with_reducible apply ro_mulR) <;> (walk_at "side"))
  | ((with_reducible apply ro_addC); (walk_at "side"))
  | ((with_reducible apply ro_ixC) <;> (walk_at "side"))
  | ((with_reducible apply ro_ixI) <;> (walk_at "side"))
  | ((with_reducible apply ro_ixIN) <;> (walk_at "side"))
  | ((with_reducible apply ro_ixT2) <;> (walk_at "side"))
  | ((with_reducible apply ro_ixG) <;> (walk_at "side"))
  | ((with_reducible apply ro_eq); exact rfl)
  | ((with_reducible apply ro_ne); exact rfl)
  | with_reducible exact ro_isN
  | with_reducible exact ro_notN
  | with_reducible exact ro_eqL
  | with_reducible exact ro_neL
  | with_reducible exact ro_eqU
  | ((with_reducible apply ro_cat); (walk_at "side"))
  | with_reducible exact ro_inLi
  | with_reducible exact ro_inNi
  | with_reducible exact ro_inUi
  | ((with_reducible apply ro_inL) <;> (walk_at "side"))
  | ((with_reducible apply ro_inN) <;> (walk_at "side"))
  | ((with_reducible apply ro_inU) <;> (walk_at "side"))))
local macro_rules | `(tactic| walk_at "rc") => `(tactic| (first
  | with_reducible exact rc_int
  | with_reducible exact rc_intB
  | with_reducible exact rc_max2
  | ((with_reducible apply rc_lenC); (walk_at "side"))
  | with_reducible exact rc_lenI
  | with_reducible exact rc_lenT
  | with_reducible exact rc_lenIN
  | with_reducible exact rc_lenTN
  | with_reducible exact rc_lenL
  | with_reducible exact rc_lenN
  | with_reducible exact rc_lenU
  | with_reducible exact rc_listL
  | with_reducible exact rc_listU
  | with_reducible exact rc_tupL
  | with_reducible exact rc_tupN
  | ((with_reducible apply rc_isi_int); decide +kernel)
  | ((with_reducible apply rc_isi_str); decide +kernel)
  | ((with_reducible apply rc_isi_bl); decide +kernel)
  | ((with_reducible apply rc_isi_non); decide +kernel)
  | ((with_reducible apply rc_isi_u); decide +kernel)
  | ((with_reducible apply rc_isi_l); decide +kernel)))
local macro_rules | `(tactic| walk_at "er") => `(tactic| (first
  | ((with_reducible apply er_var); (exact rfl); assumption)
  | ((with_reducible apply er_v); exact rfl)
  | with_reducible exact er_c
  | ((with_reducible apply er_pick); (walk_at "er"); (walk_at "er"); (walk_at "er"))
  | ((with_reducible apply er_op); (walk_at "er"); (walk_at "er"); (walk_at "ro"))
  | ((with_reducible apply er_cb); (walk_at "era"); (walk_at "rc"))
  | ((with_reducible apply er_lst'); (walk_at "era"); (exact rfl); (walk_at "side"))
  | ((with_reducible apply er_tup'); (walk_at "era"); (exact rfl); (walk_at "side"))
  | ((with_reducible apply er_notV); (walk_at "er"))
  | ((with_reducible apply er_andV); (walk_at "er"); (intro _; (walk_at "er")))
  | ((with_reducible apply er_orV); (walk_at "er"); (intro _; (walk_at "er")))
  | ((with_reducible apply er_ite); (walk_at "et"); (intro _; (walk_at "er")); (intro _; (walk_at "er")))))
local macro_rules | `(tactic| walk_at "era") => `(tactic| (first
  | with_reducible exact era_nil
  | ((with_reducible apply era_cons); (walk_at "er"); (walk_at "era"))))
local macro_rules | `(tactic| walk_at "et") => `(tactic| (first
  | ((with_reducible apply et_an); (walk_at "et"); (intro _; (walk_at "et")))
  | ((with_reducible apply et_orr); (walk_at "et"); (intro _; (walk_at "et")))
  | ((with_reducible apply et_nt); (walk_at "et"))
  | ((with_reducible apply et1); (walk_at "er"))
  | ((with_reducible apply et2); (walk_at "er"))))

section
variable {K : PySem.W.Frag} {σ : L2.St} {G A : Hp} {te tl : TE} {tr : TA} {d : Dd}
theorem ef_lstn {vs : List V} (h : Era K tr σ G (vs.map Dd.v)) (hl : vs.length ≤ 100000) : Ef K (tLst tr) σ G (.n vs) := fun G1 A e1 e2 Q q =>
  h A (e1.trans e2) _ fun ws H2 e z => by
    have ew := flat_all z
    subst ew
    exact ⟨sz_of hl, fun p hp => q _ (upd G1 p (.lst ws)) _ ((Step.on e2 e).trans (Step.new (e2.trans e) hp)) ⟨p, rfl, upd_same⟩⟩
theorem rof_cat {xs zs : List V} (h : xs.length + zs.length ≤ 100000) : Rof K rCat (.n xs) (.n zs) (.n (xs ++ zs)) := by
  rintro _ _ G A e ⟨p, rfl, hp⟩ ⟨p', rfl, hp'⟩ Q q
  exact ⟨p, p', xs, zs, rfl, rfl, e p _ hp, e p' _ hp', sz_of h, fun l hl => q _ (upd G l (.lst (xs ++ zs))) _ (Step.new e hl) ⟨l, rfl, upd_same⟩⟩
end
section
variable {P : Program} {w : World} {K : PySem.W.Frag} {mg : Str → Option Value} {base : Heap}
/-! ### all orders of the names -/
def netT (sts : List (List Nat × List Nat)) (n : Nat) (r : List (List Nat)) : List Nat := r.foldl (fun l m => pressM l (stampOf sts m)) (List.replicate n 45)
theorem netT_app {sts : List (List Nat × List Nat)} {n : Nat} {r : List (List Nat)} {m : List Nat} : netT sts n (r ++ [m]) = pressM (netT sts n r) (stampOf sts m) := by
  unfold netT
  rw [List.foldl_append]
  rfl
theorem netT_len {n : Nat} {sts : List (List Nat × List Nat)} (h : StOk n sts) {r : List (List Nat)} (hr : ∀ m ∈ r, m ∈ nmV sts) : (netT sts n r).length = n := by
  unfold netT
  suffices h2 : ∀ (r : List (List Nat)) (x : List Nat), (∀ m ∈ r, m ∈ nmV sts) → x.length = n → (r.foldl (fun l m => pressM l (stampOf sts m)) x).length = n from h2 r _ hr (by simp)
  intro r
  induction r with
  | nil => intro x _ h; exact h
  | cons m r ih =>
    intro x hm hx
    have := h.stl (h.nm.ok m (hm m (List.mem_cons_self ..)))
    exact ih _ (fun y hy => hm y (List.mem_cons_of_mem _ hy)) (by rw [pressM_len (by omega), hx])
abbrev qD (sts : List (List Nat × List Nat)) (n : Nat) (r : List (List Nat)) : Dd := Dd.L [.n (vsl r), .s (S (netT sts n r))]
abbrev netsM (sts : List (List Nat × List Nat)) (n : Nat) : List (List (List Nat) × List Nat) := (rowsT (nmV sts) sts.length).map fun r => (r, netT sts n r)
theorem inV_vsl {n : List Nat} {xs : List (List Nat)} : inV (.str (S n)) (vsl xs) = decide (n ∈ xs) := by
  unfold inV
  rw [vsl, vss, List.any_map, List.any_map, Bool.eq_iff_iff, List.any_eq_true, decide_eq_true_eq]
  constructor
  · rintro ⟨q, hq, e⟩
    have e2 : S q = S n := by simpa [eqV] using e
    rw [← S_inj e2]
    exact hq
  · intro h
    exact ⟨n, h, by simp [eqV]⟩
theorem flat_vsl (xs : List (List Nat)) : (vsl xs).all flatV = true := by
  rw [List.all_eq_true]
  intro v hv
  obtain ⟨s, _, rfl⟩ := List.mem_map.mp hv
  rfl
theorem ro_notInT {n : List Nat} {xs : List (List Nat)} : Ro K (rIn K true) (.s (S n)) (.n (vsl xs)) (.b (!decide (n ∈ xs))) := by
  have h := ro_inN (K := K) (neg := true) (x := .str (S n)) (xs := vsl xs) rfl (flat_vsl xs)
  rw [if_pos rfl, inV_vsl] at h
  exact h
theorem more_len {ns r : List (List Nat)} : (moreR ns r).length ≤ ns.length := by
  rw [moreR, List.length_map]
  exact List.length_filter_le _ _
theorem flat_len {ns : List (List Nat)} : ∀ rows : List (List (List Nat)), (rows.flatMap (moreR ns)).length ≤ rows.length * ns.length
  | [] => by simp
  | r :: rows => by
    rw [List.flatMap_cons, List.length_append, List.length_cons, Nat.succ_mul]
    have h1 := flat_len (ns := ns) rows
    have h2 := more_len (ns := ns) (r := r)
    omega
theorem nmV_next {sts : List (List Nat × List Nat)} {j : Nat} {e : List Nat × List Nat} (h : sts[j]? = some e) : nmV (sts.take (j + 1)) = nmV (sts.take j) ++ [e.1] := by
  rw [nmV, List.take_add_one, h, List.map_append]
  rfl
theorem more_next {sts : List (List Nat × List Nat)} {j : Nat} {e : List Nat × List Nat} {r : List (List Nat)} (h : sts[j]? = some e) : moreR (nmV (sts.take (j + 1))) r = moreR (nmV (sts.take j)) r ++ if e.1 ∈ r then [] else [r ++ [e.1]] := by
  rw [nmV_next h, moreR, List.filter_append, List.map_append]
  congr 1
  by_cases h : e.1 ∈ r <;> simp [h]
theorem flat_next {ns : List (List Nat)} {rows : List (List (List Nat))} {i : Nat} {r : List (List Nat)} (h : rows[i]? = some r) : (rows.take (i + 1)).flatMap (moreR ns) = (rows.take i).flatMap (moreR ns) ++ moreR ns r := by
  rw [List.take_add_one, h, List.flatMap_append]
  simp
end
end Mi

set_option maxHeartbeats 4000000
namespace Mi
open PySem PySem.Spec PyProof.Rows L2 Evl
local macro_rules | `(tactic| walk_at "side") => `(tactic| (first | assumption | omega | exact rfl | decide | (simp only [List.length_cons, List.length_nil, List.length_map, List.length_append, List.length_replicate] <;> omega)))
local macro_rules | `(tactic| walk_at "ro") => `(tactic| (first
  | with_reducible exact ro_I0
  | with_reducible exact ro_1018
  | with_reducible exact ro_neC
  | with_reducible exact ro_eqC
  | with_reducible exact ro_neI
  | with_reducible exact ro_eqI
  | with_reducible exact ro_neB
  | with_reducible exact ro_eqB
  | ((with_reducible apply ro_mod); (walk_at "side"))
  | ((with_reducible apply ro_div) <;> (walk_at "side"))
  | ((with_reducible apply ro_divW) <;> (walk_at "side"))
  | with_reducible exact ro_1012
  | with_reducible exact ro_1015
  | ((with_reducible apply ro_mulL) <;> (walk_at "side"))
  | ((with_reducible apply ro_mulR) <;> (walk_at "side"))
  | ((with_reducible apply ro_addC); (walk_at "side"))
  | ((with_reducible apply ro_ixC) <;> (walk_at "side"))
  | ((with_reducible apply ro_ixI) <;> (walk_at "side"))
  | ((with_reducible apply ro_ixIN) <;> (walk_at "side"))
  | ((with_reducible apply ro_ixT2) <;> (walk_at "side"))
  | ((with_reducible apply ro_ixG) <;> (walk_at "side"))
  | ((with_reducible apply ro_eq); exact rfl)
  | ((with_reducible apply ro_ne); exact rfl)
  | with_reducible exact ro_isN
  | with_reducible exact ro_notN
  | with_reducible exact ro_eqL
  | with_reducible exact ro_neL
  | with_reducible exact ro_eqU
  | ((with_reducible apply ro_cat); (walk_at "side"))
  | with_reducible exact ro_inLi
  | with_reducible exact ro_inNi
  | with_reducible exact ro_inUi
  | ((with_reducible apply ro_inL) <;> (walk_at "side"))
  | ((with_reducible apply ro_inN) <;> (walk_at "side"))
  | ((with_reducible apply ro_inU) <;> (walk_at "side"))))
local macro_rules | `(tactic| walk_at "rc") => `(tactic| (first
  | with_reducible exact rc_int
  | with_reducible exact rc_intB
  | with_reducible exact rc_max2
  | ((with_reducible apply rc_lenC); (walk_at "side"))
  | with_reducible exact rc_lenI
  | with_reducible exact rc_lenT
  | with_reducible exact rc_lenIN
  | with_reducible exact rc_lenTN
  | with_reducible exact rc_lenL
  | with_reducible exact rc_lenN
  | with_reducible exact rc_lenU
  | with_reducible exact rc_listL
  | with_reducible exact rc_listU
  | with_reducible exact rc_tupL
  | with_reducible exact rc_tupN
  | ((with_reducible apply rc_isi_int); decide +kernel)
  | ((with_reducible apply rc_isi_str); decide +kernel)
  | ((with_reducible apply rc_isi_bl); decide +kernel)
  | ((with_reducible apply rc_isi_non); decide +kernel)
  | ((with_reducible apply rc_isi_u); decide +kernel)
  | ((with_reducible apply rc_isi_l); decide +kernel)))
local macro_rules | `(tactic| walk_at "er") => `(tactic| (first
  | ((with_reducible apply er_var); (exact rfl); assumption)
  | ((with_reducible apply er_v); exact rfl)
  | with_reducible exact er_c
  | ((with_reducible apply er_pick); (walk_at "er"); (walk_at "er"); (walk_at "er"))
  | ((with_reducible apply er_op); (walk_at "er"); (walk_at "er"); (walk_at "ro"))
  | ((with_reducible apply er_cb); (walk_at "era"); (walk_at "rc"))
  | ((with_reducible apply er_lst'); (walk_at "era"); (exact rfl); (walk_at "side"))
  | ((with_reducible apply er_tup'); (walk_at "era"); (exact rfl); (walk_at "side"))
  | ((with_reducible apply er_notV); (walk_at "er"))
  | ((with_reducible apply er_andV); (walk_at "er"); (intro _; (walk_at "er")))
  | ((with_reducible apply er_orV); (walk_at "er"); (intro _; (walk_at "er")))
  | ((with_reducible apply er_ite); (walk_at "et"); (intro _; (walk_at "er")); (intro _; (walk_at "er")))))
local macro_rules | `(tactic| walk_at "era") => `(tactic| (first
  | with_reducible exact era_nil
  | ((with_reducible apply era_cons); (walk_at "er"); (walk_at "era"))))
local macro_rules | `(tactic| walk_at "et") => `(tactic| (first
  | ((with_reducible apply et_an); (walk_at "et"); (intro _; (walk_at "et")))
  | ((with_reducible apply et_orr); (walk_at "et"); (intro _; (walk_at "et")))
  | ((with_reducible apply et_nt); (walk_at "et"))
  | ((with_reducible apply et1); (walk_at "er"))
  | ((with_reducible apply et2); (walk_at "er"))))

section
variable {K : PySem.W.Frag} {σ : L2.St} {G H : Hp} {te tl tb ta : TE} {tr : TA} {ds : List Dd}
theorem er_cutTo {n : Nat} {xs : List V} (h : Er K te σ H (.l xs)) (h2 : Er K tb σ H (.i (n : Int))) : Er K (tSl (rSlL K) te tNoPart (tPart tb)) σ H (.n (xs.take n)) := by
  have ec : cutV xs none (some (n : Int)) = xs.take n := by
    unfold cutV
    rw [HT.sIx_none, HT.sIx_nat]
    rw [List.drop_zero, Nat.sub_zero, List.take_eq_take_iff]
    omega
  rw [← ec]
  exact er_slL h eo_non (eo_of h2)
theorem er_cutFrom {n : Nat} {xs : List V} (h : Er K te σ H (.l xs)) (h2 : Er K tb σ H (.i (n : Int))) : Er K (tSl (rSlL K) te (tPart tb) tNoPart) σ H (.n (xs.drop n)) := by
  rw [← cutV_from]
  exact er_slL h (eo_of h2) eo_non
theorem ef_slTo {n : Nat} {xs : List V} (h : Ef K te σ G (.l xs)) (h2 : Er K tb σ G (.i (n : Int))) : Ef K (tSl (rSlL K) te tNoPart (tPart tb)) σ G (.n (xs.take n)) := fun G1 A1 e1 e2 _ q =>
  h G1 A1 e1 e2 _ fun v G2 A2 s2 ⟨p, ep, hp⟩ => eo_non A2 (((e1.trans s2.g).trans s2.v)) _ fun A3 e3 => eo_of h2 A3 (((e1.trans s2.g).trans s2.v).trans e3) _ fun A4 e4 => by
    subst ep
    have s4 := s2.trans (Step.on s2.v (e3.trans e4))
    have ec : cutV xs none (some (n : Int)) = xs.take n := by
      unfold cutV
      rw [HT.sIx_none, HT.sIx_nat]
      rw [List.drop_zero, Nat.sub_zero, List.take_eq_take_iff]
      omega
    refine ⟨p, xs, rfl, ex_l s4.v hp, fun l hl => q _ (upd G2 l (.lst (xs.take n))) _ ?_ ⟨l, rfl, upd_same⟩⟩
    rw [ec]
    exact s4.trans (Step.new s4.v hl)
theorem ef_slFrom {n : Nat} {xs : List V} (h : Ef K te σ G (.l xs)) (h2 : Er K tb σ G (.i (n : Int))) : Ef K (tSl (rSlL K) te (tPart tb) tNoPart) σ G (.n (xs.drop n)) := fun G1 A1 e1 e2 _ q =>
  h G1 A1 e1 e2 _ fun v G2 A2 s2 ⟨p, ep, hp⟩ => eo_of h2 A2 ((e1.trans s2.g).trans s2.v) _ fun A3 e3 => eo_non A3 (((e1.trans s2.g).trans s2.v).trans e3) _ fun A4 e4 => by
    subst ep
    have s4 := s2.trans (Step.on s2.v (e3.trans e4))
    refine ⟨p, xs, rfl, ex_l s4.v hp, fun l hl => q _ (upd G2 l (.lst (xs.drop n))) _ ?_ ⟨l, rfl, upd_same⟩⟩
    rw [cutV_from]
    exact s4.trans (Step.new s4.v hl)
end
theorem mod_nat {a : Int} {n : Nat} (h : 0 < n) : (((a % (n : Int)).toNat : Nat) : Int) = a % (n : Int) ∧ (a % (n : Int)).toNat < n := by
  have q0 : 0 ≤ a % (n : Int) := Int.emod_nonneg _ (by omega)
  have q1 : a % (n : Int) < (n : Int) := Int.emod_lt_of_pos _ (by omega)
  omega
section
variable {P : Program} {w : World} {K : PySem.W.Frag} {mg : Str → Option Value} {base : Heap}
/-! ### a stamp drawn -/
def stMenu (marks : List Nat) (dashes : Nat) : List Nat := List.replicate dashes 45 ++ [marks.getD 0 0] ++ [marks.getD 0 0] ++ [marks.getD 1 0] ++ [marks.getD 2 0]
theorem stMenu_len {marks : List Nat} {dashes : Nat} : (stMenu marks dashes).length = dashes + 4 := by simp [stMenu]
def st0 (marks : List Nat) (row : List Int) (dashes : Nat) : List Nat := row.map fun d => (stMenu marks dashes).getD d.toNat 0
def stFix (marks : List Nat) (row : List Int) (t : List Nat) : List Nat := t.take (row.sum % (row.length : Int)).toNat ++ [marks.getD (row.getD 0 0 % 2).toNat 0] ++ t.drop ((row.sum % (row.length : Int)).toNat + 1)
def stM (marks : List Nat) (row : List Int) (dashes : Nat) : List Nat := if st0 marks row dashes = List.replicate row.length 45 then stFix marks row (st0 marks row dashes) else st0 marks row dashes
structure RowD (row : List Int) (dashes : Nat) : Prop where
  one : 1 ≤ row.length
  few : row.length ≤ 1000
  lo : ∀ d ∈ row, 0 ≤ d
  hi : ∀ d ∈ row, d < (dashes : Int) + 4
/-! ### a sheet drawn -/
/-! ### the numbers in another order -/
def turnM (many : Nat) (row : List Int) : Nat → List Int × List Int
  | 0 => ((List.range many).map fun k : Nat => (k : Int), [])
  | k + 1 => ((turnM many row k).1.take (row.getD k 0 % ((turnM many row k).1.length : Int)).toNat ++ (turnM many row k).1.drop ((row.getD k 0 % ((turnM many row k).1.length : Int)).toNat + 1), (turnM many row k).2 ++ [(turnM many row k).1.getD (row.getD k 0 % ((turnM many row k).1.length : Int)).toNat 0])
theorem turnM_ok {many : Nat} {row : List Int} : ∀ k, k ≤ many → (turnM many row k).1.length = many - k ∧ (turnM many row k).2.length = k ∧ (∀ d ∈ (turnM many row k).1, 0 ≤ d ∧ d < (many : Int)) ∧ ∀ d ∈ (turnM many row k).2, 0 ≤ d ∧ d < (many : Int)
  | 0, _ => by
    refine ⟨by simp [turnM], rfl, fun d hd => ?_, fun d hd => by cases hd⟩
    obtain ⟨k, hk, rfl⟩ := List.mem_map.mp hd
    have := List.mem_range.mp hk
    omega
  | k + 1, hk => by
    obtain ⟨i1, i2, i3, i4⟩ := turnM_ok (many := many) (row := row) k (by omega)
    unfold turnM
    generalize turnM many row k = st at *
    obtain ⟨r, m⟩ := st
    replace i1 : r.length = many - k := i1
    replace i2 : m.length = k := i2
    replace i3 : ∀ d ∈ r, 0 ≤ d ∧ d < (many : Int) := i3
    replace i4 : ∀ d ∈ m, 0 ≤ d ∧ d < (many : Int) := i4
    obtain ⟨q1, q2⟩ := mod_nat (a := row.getD k 0) (n := r.length) (by omega)
    refine ⟨?_, ?_, fun d hd => ?_, fun d hd => ?_⟩
    · show (r.take (row.getD k 0 % (r.length : Int)).toNat ++ r.drop ((row.getD k 0 % (r.length : Int)).toNat + 1)).length = _
      rw [List.length_append, List.length_take, List.length_drop]
      omega
    · show (m ++ [_]).length = _
      rw [List.length_append, i2]
      rfl
    · rcases List.mem_append.mp hd with hd | hd
      · exact i3 d (List.mem_of_mem_take hd)
      · exact i3 d (List.mem_of_mem_drop hd)
    · rcases List.mem_append.mp hd with hd | hd
      · exact i4 d hd
      · rw [List.mem_singleton.mp hd]
        exact i3 _ (getD_memL q2)
end
end Mi

set_option maxHeartbeats 4000000
namespace Mi
open PySem PySem.Spec PyProof.Rows L2 Evl
local macro_rules | `(tactic| walk_at "side") => `(tactic| (first | assumption | omega | exact rfl | decide | (simp only [List.length_cons, List.length_nil, List.length_map, List.length_append, List.length_replicate] <;> omega)))
local macro_rules | `(tactic| walk_at "ro") => `(tactic| (first
  | with_reducible exact ro_I0
  | with_reducible exact ro_1018
  | with_reducible exact ro_neC
  | with_reducible exact ro_eqC
  | with_reducible exact ro_neI
  | with_reducible exact ro_eqI
  | with_reducible exact ro_neB
  | with_reducible exact ro_eqB
  | ((with_reducible apply ro_mod); (walk_at "side"))
  | ((with_reducible apply ro_div) <;> (walk_at "side"))
  | ((with_reducible apply ro_divW) <;> (walk_at "side"))
  | with_reducible exact ro_1012
  | with_reducible exact ro_1015
  | ((with_reducible apply ro_mulL) <;> (walk_at "side"))
  | ((with_reducible apply ro_mulR) <;> (walk_at "side"))
  | ((with_reducible apply ro_addC); (walk_at "side"))
  | ((with_reducible apply ro_ixC) <;> (walk_at "side"))
  | ((with_reducible apply ro_ixI) <;> (walk_at "side"))
  | ((with_reducible apply ro_ixIN) <;> (walk_at "side"))
  | ((with_reducible apply ro_ixT2) <;> (walk_at "side"))
  | ((with_reducible apply ro_ixG) <;> (walk_at "side"))
  | ((with_reducible apply ro_eq); exact rfl)
  | ((with_reducible apply ro_ne); exact rfl)
  | with_reducible exact ro_isN
  | with_reducible exact ro_notN
  | with_reducible exact ro_eqL
  | with_reducible exact ro_neL
  | with_reducible exact ro_eqU
  | ((with_reducible apply ro_cat); (walk_at "side"))
  | with_reducible exact ro_inLi
  | with_reducible exact ro_inNi
  | with_reducible exact ro_inUi
  | ((with_reducible apply ro_inL) <;> (walk_at "side"))
  | ((with_reducible apply ro_inN) <;> (walk_at "side"))
  | ((with_reducible apply ro_inU) <;> (walk_at "side"))))
local macro_rules | `(tactic| walk_at "rc") => `(tactic| (first
  | with_reducible exact rc_int
  | with_reducible exact rc_intB
  | with_reducible exact rc_max2
  | ((with_reducible apply rc_lenC); (walk_at "side"))
  | with_reducible exact rc_lenI
  | with_reducible exact rc_lenT
  | with_reducible exact rc_lenIN
  | with_reducible exact rc_lenTN
  | with_reducible exact rc_lenL
  | with_reducible exact rc_lenN
  | with_reducible exact rc_lenU
  | with_reducible exact rc_listL
  | with_reducible exact rc_listU
  | with_reducible exact rc_tupL
  | with_reducible exact rc_tupN
  | ((with_reducible apply rc_isi_int); decide +kernel)
  | ((with_reducible apply rc_isi_str); decide +kernel)
  | ((with_reducible apply rc_isi_bl); decide +kernel)
  | ((with_reducible apply rc_isi_non); decide +kernel)
  | ((with_reducible apply rc_isi_u); decide +kernel)
  | ((with_reducible apply rc_isi_l); decide +kernel)))
local macro_rules | `(tactic| walk_at "er") => `(tactic| (first
  | ((with_reducible apply er_var); (exact rfl); assumption)
  | ((with_reducible apply er_v); exact rfl)
  | with_reducible exact er_c
  | ((with_reducible apply er_pick); (walk_at "er"); (walk_at "er"); (walk_at "er"))
  | ((with_reducible apply er_op); (walk_at "er"); (walk_at "er"); (walk_at "ro"))
  | ((with_reducible apply er_cb); (walk_at "era"); (walk_at "rc"))
  | ((with_reducible apply er_lst'); (walk_at "era"); (exact rfl); (walk_at "side"))
  | ((with_reducible apply er_tup'); (walk_at "era"); (exact rfl); (walk_at "side"))
  | ((with_reducible apply er_notV); (walk_at "er"))
  | ((with_reducible apply er_andV); (walk_at "er"); (intro _; (walk_at "er")))
  | ((with_reducible apply er_orV); (walk_at "er"); (intro _; (walk_at "er")))
  | ((with_reducible apply er_ite); (walk_at "et"); (intro _; (walk_at "er")); (intro _; (walk_at "er")))))
local macro_rules | `(tactic| walk_at "era") => `(tactic| (first
  | with_reducible exact era_nil
  | ((with_reducible apply era_cons); (walk_at "er"); (walk_at "era"))))
local macro_rules | `(tactic| walk_at "et") => `(tactic| (first
  | ((with_reducible apply et_an); (walk_at "et"); (intro _; (walk_at "et")))
  | ((with_reducible apply et_orr); (walk_at "et"); (intro _; (walk_at "et")))
  | ((with_reducible apply et_nt); (walk_at "et"))
  | ((with_reducible apply et1); (walk_at "er"))
  | ((with_reducible apply et2); (walk_at "er"))))

section
variable {K : PySem.W.Frag} {σ : L2.St} {G A H : Hp} {te tl to ti : TE} {tr : TA} {wi : TI} {g : TG} {t : TT} {ds : List Dd} {D : Ends}
/-! ### lists that are new, and may be changed -/
def frD (K : PySem.W.Frag) (G : Hp) (ds : List Dd) : Dd := .P ⟨fun H y => ∃ p us, y = .ref p ∧ G p = none ∧ H p = some (.lst us) ∧ IsE K H ds us, by
  rintro H H' y e ⟨p, us, rfl, h1, h2, h3⟩
  exact ⟨p, us, rfl, h1, e p _ h2, IsE.mono e h3⟩⟩
theorem ef_new (h : Efa K tr σ G ds) (hl : ds.length ≤ 100000) : Ef K (tLst tr) σ G (frD K G ds) := fun G1 A e1 e2 Q q =>
  h G1 A e1 e2 _ fun ws G2 A2 s z => ⟨sz_of (by rw [← z.len]; exact hl), fun p hp => q _ _ _ (s.trans (.new s.v hp)) ⟨p, ws, rfl, ex_out ((e1.trans s.g).trans s.v) hp, upd_same, isE_all.mpr (z.mono (Ex.new (ex_out s.v hp)))⟩⟩
/-- a comprehension, its list is new -/
theorem ef_lcF {α : Type} {its : List α} {inj : α → Dd} {vs : List Nat} (f : α → Bool) (gd : α → Dd) (h : Itf K wi σ G (its.map inj)) (hz : its.length ≤ 50000)
    (hs : ∀ (i : Nat) x v G' A', Ex G G' → Ex G' A' → its[i]? = some x → Is K G' (inj x) v → ∃ σ2, (∀ Q : L2.St → Hp → Prop, Q σ2 A' → g v (wipe σ vs) A' Q) ∧ wipe σ2 vs = wipe σ vs ∧ Et K t σ2 A' (f x) ∧ (f x = true → Ef K te σ2 G' (gd x))) :
    Ef K (tLc wi g t te vs) σ G (frD K G ((its.filter f).map gd)) := fun G0 A0 e0 ea0 Q q =>
  h G0 A0 e0 ea0 _ fun J G1 A1 s1 hw => fun Dl hD => by
    have gD := ex_out s1.v hD
    have gD0 : G Dl = none := ex_out (e0.trans s1.g) gD
    refine ⟨fun i m A' => m = its.length - i ∧ i ≤ its.length ∧ ∃ G', Step G1 A1 G' A' ∧ G' Dl = none ∧ ∃ us, A' Dl = some (.lst us) ∧ IsE K G' (((its.take i).filter f).map gd) us, ⟨_, rfl, Nat.zero_le _, G1, .on s1.v (Ex.new hD), gD, [], upd_same, rfl⟩, ?_⟩
    rintro i m A' ⟨rfl, hi, G', st, hg, us, hu, hE⟩
    by_cases hlt : i < its.length
    · have hx : its[i]? = some its[i] := List.getElem?_eq_getElem hlt
      have hd' : (its.map inj)[i]? = some (inj its[i]) := by rw [List.getElem?_map, hx]; rfl
      obtain ⟨go, yl⟩ := (hw i G' A' st.g st.v).1 _ hd'
      refine .inr ⟨go, fun A3 => ∃ G3, Step G1 A1 G3 A3 ∧ G3 Dl = none ∧ ∃ us, A3 Dl = some (.lst us) ∧ IsE K G3 (((its.take (i + 1)).filter f).map gd) us, fun A3 p3 => ⟨its.length - (i + 1), by omega, rfl, hlt, p3⟩, fun v A'' y => ?_⟩
      obtain ⟨G2, s2, z⟩ := yl v A'' y
      have uN : A' Dl ≠ none := by rw [hu]; simp
      have g2 := s2.f Dl uN hg
      have u2 := s2.a Dl _ hu
      obtain ⟨σ2, hgt, hwp, htt, hte⟩ := hs i _ v G2 A'' ((e0.trans s1.g).trans (st.g.trans s2.g)) s2.v hx z
      have hl : us.length ≤ i := by
        rw [← isE_len hE, List.length_map]
        refine Nat.le_trans (List.length_filter_le _ _) ?_
        rw [List.length_take]
        exact Nat.min_le_left _ _
      refine hgt _ ⟨hwp, htt A'' (Ex.refl _) _ fun A3 e3 => ?_⟩
      have hn : (its.take (i + 1)).filter f = (its.take i).filter f ++ if f its[i] = true then [its[i]] else [] := by
        rw [List.take_add_one, hx]
        simp only [Option.toList, List.filter_append]
        congr 1
        by_cases hf : f its[i] = true
        · simp [hf]
        · simp [hf]
      have s3 := (st.trans s2).trans (Step.on s2.v e3)
      have u3 := e3 Dl _ u2
      by_cases hf : f its[i] = true
      · rw [if_pos hf]
        refine hte hf G2 A3 (Ex.refl G2) s3.v _ fun w G4 A4 s4 zw => ⟨us, s4.a Dl _ u3, sz_lt (by omega), ?_⟩
        have g4 := s4.f Dl (by rw [u3]; simp) g2
        refine ⟨G4, (s3.trans s4).grow hD g4, g4, us ++ [w], upd_same, ?_⟩
        rw [hn, if_pos hf, List.map_append]
        exact isE_app (IsE.mono (s2.g.trans s4.g) hE) ⟨w, [], rfl, zw, rfl⟩
      · rw [if_neg hf]
        refine ⟨G2, s3, g2, us, u3, ?_⟩
        rw [hn, if_neg hf, List.append_nil]
        exact IsE.mono s2.g hE
    · have e : i = its.length := by omega
      subst e
      refine .inl ⟨(hw _ G' A' st.g st.v).2 (by rw [List.length_map]), q _ (upd G' Dl (.lst us)) A' (s1.trans (st.seal hD hg hu)) ⟨Dl, us, rfl, gD0, upd_same, ?_⟩⟩
      rw [List.take_length] at hE
      exact IsE.mono (Ex.new hg) hE
theorem s_appS {tz : TS} {D : Ends} {l : Addr} {us : List V} (hl : A l = some (.lst us)) (hg : G l = none) (hA : Ex G A) (ha : Er K tl σ A (.v (.ref l))) (h : Ef K te σ G d) (hz : us.length < 100000) (k : ∀ w G' A', Step G A G' A' → Is K G' d w → G' l = none → A' l = some (.lst us) → tz D σ (upd A' l (.lst (us ++ [w])))) :
    tSeq (tDrop (tBM K "list" rAppend tl (tCons te tNil))) tz D σ A := s_app (D := { D with nx := tz D }) hl hg hA ha h hz k
/-- xs[i] = a flat value -/
theorem a_setix {l : Addr} {us : List V} {i : Nat} {x : V} (hv : Er K te σ H (.v x)) (ho : ∀ H1, Ex H H1 → Er K to σ H1 (.v (.ref l))) (hi : Er K ti σ H (.i (i : Int))) (hl : H l = some (.lst us)) (hj : i < us.length) (k : ∀ H1, Ex H H1 → D.nx σ (upd H1 l (.lst (us.set i x)))) : tAsg te (gSub to ti rSetL) D σ H :=
  hv H (Ex.refl H) _ fun v H1 e1 z1 => ho H1 e1 H1 (Ex.refl _) _ fun o H2 e2 z2 => hi H2 (e1.trans e2) _ fun iv H3 e3 z3 => by
    obtain rfl : v = x := z1
    obtain rfl : o = .ref l := z2
    obtain rfl : iv = .int (i : Int) := z3
    have E := (e1.trans e2).trans e3
    exact ⟨l, us, (i : Int), i, rfl, rfl, E l _ hl, ixN_nat hj, k H3 E⟩
theorem a_setixS {l : Addr} {us : List V} {i : Nat} {x : V} {tz : TS} (hv : Er K te σ H (.v x)) (ho : ∀ H1, Ex H H1 → Er K to σ H1 (.v (.ref l))) (hi : Er K ti σ H (.i (i : Int))) (hl : H l = some (.lst us)) (hj : i < us.length) (k : ∀ H1, Ex H H1 → tz D σ (upd H1 l (.lst (us.set i x)))) : tSeq (tAsg te (gSub to ti rSetL)) tz D σ H :=
  a_setix (D := { D with nx := tz D }) hv ho hi hl hj k
end
/-- the heap without its lists -/
def noL (H : Hp) : Hp := fun a => match H a with
  | some (.lst _) => none
  | o => o
theorem noL_ex {H : Hp} : Ex (noL H) H := fun a o h => by
  unfold noL at h
  split at h
  · cases h
  · exact h
theorem noL_keep {H : Hp} {a : Addr} {o : HO} (h : H a = some o) (hn : ∀ us, o ≠ .lst us) : noL H a = some o := by
  unfold noL
  rw [h]
  cases o <;> first | rfl | exact absurd rfl (hn _)
theorem noL_none {H : Hp} {a : Addr} {us : List V} (h : H a = some (.lst us)) : noL H a = none := by
  unfold noL
  rw [h]
section
variable {P : Program} {w : World} {K : PySem.W.Frag} {mg : Str → Option Value} {base : Heap}
theorem sqT_noL {H : Hp} {a : Addr} {xs : List V} (h : SqT K H a xs) : SqT K (noL H) a xs := by
  rcases h with (h | ⟨o, h⟩) | h
  · exact .inl (.inl (noL_keep h fun us e => by cases e))
  · exact .inl (.inr ⟨o, noL_keep h fun us e => by cases e⟩)
  · exact .inr h
theorem isE_noL {H : Hp} : ∀ {sts : List (List Nat × List Nat)} {vs : List V}, IsE K H (prD sts) vs → IsE K (noL H) (prD sts) vs
  | [], _, h => h
  | p :: r, _, h => by
    obtain ⟨y, s, rfl, ⟨q, ws, e, hT, hE⟩, b⟩ := h
    exact ⟨y, s, rfl, ⟨q, ws, e, sqT_noL hT, hE⟩, isE_noL b⟩
theorem stock_noL {C : Addr} {n : Int} {sts : List (List Nat × List Nat)} {H : Hp} {v : V} (h : Is K H (stockC K C n sts) v) : Is K (noL H) (stockC K C n sts) v := by
  obtain ⟨x, dx, ps, dd, rfl, h1, ⟨q, ws, e, hT, hE⟩, h3⟩ := h
  exact ⟨x, dx, ps, dd, rfl, noL_keep h1 (fun us e => by cases e), ⟨q, ws, e, sqT_noL hT, isE_noL hE⟩, noL_keep h3 (fun us e => by cases e)⟩
theorem er_makeC {σ : L2.St} {H : Hp} {tr : TA} {C : Addr} {n : Nat} {sts : List (List Nat × List Nat)} {d : Dd} (h : Era K tr σ H [.i (n : Int), d]) (hp : PairsOk n sts) (hg : GvOk d sts) : Er K (tMake C (spInit K C) [] E0 tr) σ H (stockC K C (n : Int) sts) := fun H1 e Q q =>
  h H1 e _ fun vs H2 e2 z => by
    rcases z with _ | ⟨z1, _ | ⟨z2, _ | _⟩⟩
    rename_i v1 v2
    obtain rfl : v1 = V.int (n : Int) := z1
    intro x dx hx hdx ne
    refine ⟨x, n, sts, d, v2, rfl, hp, hg, dx, H2, H2, Ex.refl _, ?_, hx, upd_same, z2, fun G' A' s hv => ⟨rfl, q _ A' (e2.trans s.a) (hv.mono s.v)⟩⟩
    exact (Ex.new hdx).trans (Ex.new (by rw [upd_ne (Ne.symm ne)]; exact hx))
abbrev fpD (K : PySem.W.Frag) (G : Hp) (p : List Nat × List Nat) : Dd := frD K G [.s (S p.1), .s (S p.2)]
/-- the lists of a list of new lists -/
theorem fp_each {G H : Hp} : ∀ {sts : List (List Nat × List Nat)} {us : List V}, IsE K H (sts.map (fpD K G)) us → us.length = sts.length ∧ ∀ (k : Nat) (p : List Nat × List Nat), sts[k]? = some p → ∃ a : Addr, us[k]? = some (V.ref a) ∧ G a = none ∧ H a = some (.lst [.str (S p.1), .str (S p.2)])
  | [], us, h => by
    have e : us = [] := h
    subst e
    exact ⟨rfl, fun k p h => by cases h⟩
  | q :: r, us, h => by
    obtain ⟨y, s, rfl, ⟨a, ws, rfl, h1, h2, hE⟩, b⟩ := h
    obtain ⟨i1, i2⟩ := fp_each b
    refine ⟨by simp [i1], fun k p hk => ?_⟩
    cases k with
    | zero =>
      obtain rfl : q = p := Option.some.inj hk
      refine ⟨a, rfl, h1, ?_⟩
      obtain ⟨x1, r1, rfl, e1, x2, r2, rfl, e2, e3⟩ := hE
      obtain rfl : x1 = V.str (S q.1) := e1
      obtain rfl : x2 = V.str (S q.2) := e2
      obtain rfl : r2 = [] := e3
      exact h2
    | succ k => exact i2 k p hk
theorem fp_st {G H : Hp} {sts : List (List Nat × List Nat)} {v : V} (h : Is K H (frD K G (sts.map (fpD K G))) v) : Is K H (.L (stD sts)) v := by
  obtain ⟨p, us, rfl, h1, h2, h3⟩ := h
  exact Is.N2L ⟨p, us, rfl, h2, isE_map (f := fpD K G) (g := eD) (fun x H v z => by
    obtain ⟨q, ws, rfl, _, z2, z3⟩ := z
    exact Is.N2L ⟨q, ws, rfl, z2, z3⟩) h3⟩
/-! ### the store, and its makings spoilt -/
abbrev scD (n : Nat) (mk : List Nat) (sts : List (List Nat × List Nat)) : Dd := .L [.i (n : Int), .s (S mk), .L (stD sts)]
end
end Mi

set_option maxHeartbeats 4000000
namespace Mi
open PySem PySem.Spec PyProof.Rows L2 Evl
local macro_rules | `(tactic| walk_at "side") => `(tactic| (first | assumption | omega | exact rfl | decide | (simp only [List.length_cons, List.length_nil, List.length_map, List.length_append, List.length_replicate] <;> omega)))
local macro_rules | `(tactic| walk_at "ro") => `(tactic| (first
  | with_reducible exact ro_I0
  | with_reducible exact ro_1018
  | with_reducible exact ro_neC
  | with_reducible exact ro_eqC
  | with_reducible exact ro_neI
  | with_reducible exact ro_eqI
  | with_reducible exact ro_neB
  | with_reducible exact ro_eqB
  | ((with_reducible apply ro_mod); (walk_at "side"))
  | ((with_reducible apply ro_div) <;> (walk_at "side"))
  | ((with_reducible apply ro_divW) <;> (walk_at "side"))
  | with_reducible exact ro_1012
  | with_reducible exact ro_1015
  | ((with_reducible apply ro_mulL) <;> (walk_at "side"))
  | ((with_reducible apply ro_mulR) <;> (walk_at "side"))
  | ((with_reducible apply ro_addC); (walk_at "side"))
  | ((with_reducible apply ro_ixC) <;> (walk_at "side"))
  | ((with_reducible apply ro_ixI) <;> (walk_at "side"))
  | ((with_reducible apply ro_ixIN) <;> (walk_at "side"))
  | ((with_reducible apply ro_ixT2) <;> (walk_at "side"))
  | ((with_reducible apply ro_ixG) <;> (walk_at "side"))
  | ((with_reducible apply ro_eq); exact rfl)
  | ((with_reducible apply ro_ne); exact rfl)
  | with_reducible exact ro_isN
  | with_reducible exact ro_notN
  | with_reducible exact ro_eqL
  | with_reducible exact ro_neL
  | with_reducible exact ro_eqU
  | ((with_reducible apply ro_cat); (walk_at "side"))
  | with_reducible exact ro_inLi
  | with_reducible exact ro_inNi
  | with_reducible exact ro_inUi
  | ((with_reducible apply ro_inL) <;> (walk_at "side"))
  | ((with_reducible apply ro_inN) <;> (walk_at "side"))
  | ((with_reducible apply ro_inU) <;> (walk_at "side"))))
local macro_rules | `(tactic| walk_at "rc") => `(tactic| (first
  | with_reducible exact rc_int
  | with_reducible exact rc_intB
  | with_reducible exact rc_max2
  | ((with_reducible apply rc_lenC); (walk_at "side"))
  | with_reducible exact rc_lenI
  | with_reducible exact rc_lenT
  | with_reducible exact rc_lenIN
  | with_reducible exact rc_lenTN
  | with_reducible exact rc_lenL
  | with_reducible exact rc_lenN
  | with_reducible exact rc_lenU
  | with_reducible exact rc_listL
  | with_reducible exact rc_listU
  | with_reducible exact rc_tupL
  | with_reducible exact rc_tupN
  | ((with_reducible apply rc_isi_int); decide +kernel)
  | ((with_reducible apply rc_isi_str); decide +kernel)
  | ((with_reducible apply rc_isi_bl); decide +kernel)
  | ((with_reducible apply rc_isi_non); decide +kernel)
  | ((with_reducible apply rc_isi_u); decide +kernel)
  | ((with_reducible apply rc_isi_l); decide +kernel)))
local macro_rules | `(tactic| walk_at "er") => `(tactic| (first
  | ((with_reducible apply er_var); (exact rfl); assumption)
  | ((with_reducible apply er_v); exact rfl)
  | with_reducible exact er_c
  | ((with_reducible apply er_pick); (walk_at "er"); (walk_at "er"); (walk_at "er"))
  | ((with_reducible apply er_op); (walk_at "er"); (walk_at "er"); (walk_at "ro"))
  | ((with_reducible apply er_cb); (walk_at "era"); (walk_at "rc"))
  | ((with_reducible apply er_lst'); (walk_at "era"); (exact rfl); (walk_at "side"))
  | ((with_reducible apply er_tup'); (walk_at "era"); (exact rfl); (walk_at "side"))
  | ((with_reducible apply er_notV); (walk_at "er"))
  | ((with_reducible apply er_andV); (walk_at "er"); (intro _; (walk_at "er")))
  | ((with_reducible apply er_orV); (walk_at "er"); (intro _; (walk_at "er")))
  | ((with_reducible apply er_ite); (walk_at "et"); (intro _; (walk_at "er")); (intro _; (walk_at "er")))))
local macro_rules | `(tactic| walk_at "era") => `(tactic| (first
  | with_reducible exact era_nil
  | ((with_reducible apply era_cons); (walk_at "er"); (walk_at "era"))))
local macro_rules | `(tactic| walk_at "et") => `(tactic| (first
  | ((with_reducible apply et_an); (walk_at "et"); (intro _; (walk_at "et")))
  | ((with_reducible apply et_orr); (walk_at "et"); (intro _; (walk_at "et")))
  | ((with_reducible apply et_nt); (walk_at "et"))
  | ((with_reducible apply et1); (walk_at "er"))
  | ((with_reducible apply et2); (walk_at "er"))))

section
variable {P : Program} {w : World} {K : PySem.W.Frag} {mg : Str → Option Value} {base : Heap}
theorem getD_szN {l : List Nat} {k : Nat} (h : k < l.length) : l.getD k 0 = l[k] := by
  rw [List.getD_eq_getElem?_getD, List.getElem?_eq_getElem h]
  rfl
theorem getD_inj {l : List Nat} (hn : l.Nodup) {i j : Nat} (hi : i < l.length) (hj : j < l.length) (h : l.getD i 0 = l.getD j 0) : i = j := by
  rw [getD_szN hi, getD_szN hj] at h
  rcases Nat.lt_trichotomy i j with q | q | q
  · exact absurd h (List.pairwise_iff_getElem.mp hn i j hi hj q)
  · exact q
  · exact absurd h.symm (List.pairwise_iff_getElem.mp hn j i hj hi q)
theorem alls_nodup : alls.Nodup := by decide +kernel
theorem alls_no : ∀ c ∈ alls, c ≠ 45 := by decide
structure InksOk (ik : List Nat) : Prop where
  len : ik.length = 3
  nodup : ik.Nodup
  mem : ∀ c ∈ ik, c ∈ alls
structure TX (size : Nat) (t : List Nat) : Prop where
  l : t.length = size
  sg : ∀ c ∈ t, c = 45 ∨ c ∈ alls
  ne : ∃ c ∈ t, c ≠ 45
theorem stamp_of {size : Nat} {t : List Nat} (h : TX size t) (h1 : 1 ≤ size) (h30 : size ≤ 30) : stampOk t size = true := by
  have hl := h.l
  unfold stampOk layerOk
  simp only [Bool.and_eq_true, decide_eq_true_eq]
  refine ⟨⟨⟨by omega, by omega⟩, List.all_eq_true.mpr fun c hc => ?_⟩, by omega, ?_⟩
  · unfold signOk
    rw [Bool.or_eq_true, decide_eq_true_eq, decide_eq_true_eq]
    exact h.sg c hc
  · obtain ⟨c, hc, hne⟩ := h.ne
    obtain ⟨i, hi, hi2⟩ := List.getElem_of_mem hc
    have hz : (c, i) ∈ t.zipIdx := List.mem_of_getElem? (zipIdx_at (by rw [List.getElem?_eq_getElem hi, hi2]))
    have hm : ((i : Nat) : Int) ∈ cellsM t := List.mem_map.mpr ⟨(c, i), List.mem_filter.mpr ⟨hz, by simpa using hne⟩, rfl⟩
    have : 0 < (cellsM t).length := List.length_pos_of_mem hm
    rw [List.length_map]
    omega
end
end Mi

set_option maxHeartbeats 4000000
namespace Mi
open PySem PySem.Spec PyProof.Rows L2 Evl
abbrev sq5 (b : Bool) (ds : List Dd) : Dd := match b with
  | true => .U ds
  | false => .L ds
local macro_rules | `(tactic| walk_at "side") => `(tactic| (first | assumption | omega | exact rfl | decide | (simp only [List.length_cons, List.length_nil, List.length_map, List.length_append, List.length_replicate] <;> omega)))
local macro_rules | `(tactic| walk_at "ro") => `(tactic| (first
  | with_reducible exact ro_I0
  | with_reducible exact ro_1018
  | with_reducible exact ro_neC
  | with_reducible exact ro_eqC
  | with_reducible exact ro_neI
  | with_reducible exact ro_eqI
  | with_reducible exact ro_neB
  | with_reducible exact ro_eqB
  | ((with_reducible apply ro_mod); (walk_at "side"))
  | ((with_reducible apply ro_div) <;> (walk_at "side"))
  | ((with_reducible apply ro_divW) <;> (walk_at "side"))
  | with_reducible exact ro_1012
  | with_reducible exact ro_1015
  | ((with_reducible apply ro_mulL) <;> (walk_at "side"))
  | ((with_reducible apply ro_mulR) <;> (walk_at "side"))
  | ((with_reducible apply ro_addC); (walk_at "side"))
  | ((with_reducible apply ro_ixC) <;> (walk_at "side"))
  | ((with_reducible apply ro_ixI) <;> (walk_at "side"))
  | ((with_reducible apply ro_ixIN) <;> (walk_at "side"))
  | ((with_reducible apply ro_ixT2) <;> (walk_at "side"))
  | ((with_reducible apply ro_ixG) <;> (walk_at "side"))
  | ((with_reducible apply ro_eq); exact rfl)
  | ((with_reducible apply ro_ne); exact rfl)
  | with_reducible exact ro_isN
  | with_reducible exact ro_notN
  | with_reducible exact ro_eqL
  | with_reducible exact ro_neL
  | with_reducible exact ro_eqU
  | ((with_reducible apply ro_cat); (walk_at "side"))
  | with_reducible exact ro_inLi
  | with_reducible exact ro_inNi
  | with_reducible exact ro_inUi
  | ((with_reducible apply ro_inL) <;> (walk_at "side"))
  | ((with_reducible apply ro_inN) <;> (walk_at "side"))
  | ((with_reducible apply ro_inU) <;> (walk_at "side"))))
local macro_rules | `(tactic| walk_at "rc") => `(tactic| (first
  | with_reducible exact rc_int
  | with_reducible exact rc_intB
  | with_reducible exact rc_max2
  | ((with_reducible apply rc_lenC); (walk_at "side"))
  | with_reducible exact rc_lenI
  | with_reducible exact rc_lenT
  | with_reducible exact rc_lenIN
  | with_reducible exact rc_lenTN
  | with_reducible exact rc_lenL
  | with_reducible exact rc_lenN
  | with_reducible exact rc_lenU
  | with_reducible exact rc_listL
  | with_reducible exact rc_listU
  | with_reducible exact rc_tupL
  | with_reducible exact rc_tupN
  | ((with_reducible apply rc_isi_int); decide +kernel)
  | ((with_reducible apply rc_isi_str); decide +kernel)
  | ((with_reducible apply rc_isi_bl); decide +kernel)
  | ((with_reducible apply rc_isi_non); decide +kernel)
  | ((with_reducible apply rc_isi_u); decide +kernel)
  | ((with_reducible apply rc_isi_l); decide +kernel)))
local macro_rules | `(tactic| walk_at "er") => `(tactic| (first
  | ((with_reducible apply er_var); (exact rfl); assumption)
  | ((with_reducible apply er_v); exact rfl)
  | with_reducible exact er_c
  | ((with_reducible apply er_pick); (walk_at "er"); (walk_at "er"); (walk_at "er"))
  | ((with_reducible apply er_op); (walk_at "er"); (walk_at "er"); (walk_at "ro"))
  | ((with_reducible apply er_cb); (walk_at "era"); (walk_at "rc"))
  | ((with_reducible apply er_lst'); (walk_at "era"); (exact rfl); (walk_at "side"))
  | ((with_reducible apply er_tup'); (walk_at "era"); (exact rfl); (walk_at "side"))
  | ((with_reducible apply er_notV); (walk_at "er"))
  | ((with_reducible apply er_andV); (walk_at "er"); (intro _; (walk_at "er")))
  | ((with_reducible apply er_orV); (walk_at "er"); (intro _; (walk_at "er")))
  | ((with_reducible apply er_ite); (walk_at "et"); (intro _; (walk_at "er")); (intro _; (walk_at "er")))))
local macro_rules | `(tactic| walk_at "era") => `(tactic| (first
  | with_reducible exact era_nil
  | ((with_reducible apply era_cons); (walk_at "er"); (walk_at "era"))))
local macro_rules | `(tactic| walk_at "et") => `(tactic| (first
  | ((with_reducible apply et_an); (walk_at "et"); (intro _; (walk_at "et")))
  | ((with_reducible apply et_orr); (walk_at "et"); (intro _; (walk_at "et")))
  | ((with_reducible apply et_nt); (walk_at "et"))
  | ((with_reducible apply et1); (walk_at "er"))
  | ((with_reducible apply et2); (walk_at "er"))))

section
variable {K : PySem.W.Frag} {σ : L2.St} {G H : Hp} {te tl : TE} {tr : TA} {D : Ends} {tu tz : TS} {W : WX} {T : Type} {pre : T → Prop} {args : T → List Dd} {ok : T → Bool} {ret : T → Dd} {er : T → Value → Option Addr → Hp → Prop}
/-- where it is known that it raises -/
theorem x_no {ds : List Dd} {Q : VK} (a : T) (h : Era K tr σ H ds) (hd : ds = args a) (hp : pre a) (ho : ok a = false) (h2 : ∀ cls d H', Ex H H' → er a cls d H' → W cls d σ H') : tCallS (spX K pre args ok ret er) (WE W) tr σ H Q :=
  h H (Ex.refl H) _ fun vs H1 e z => ⟨a, hp, hd ▸ z, fun q => (by rw [ho] at q; cases q), fun _ cls d H' e2 hv => h2 cls d H' (e.trans e2) hv⟩
theorem b_forT {j : Nat} {xs : List V} (h : Er K tl σ H (.u xs)) (Pv : Nat → L2.St → Hp → Prop) (h0 : ∀ H1, Ex H H1 → Pv 0 σ H1)
    (hs : ∀ H1, Ex H H1 → ∀ i x σ' H', xs[i]? = some x → Pv i σ' H' → Ex H1 H' → tu { D with nx := fun σ2 H2 => Pv (i + 1) σ2 H2 ∧ Ex H1 H2, ct := fun σ2 H2 => Pv (i + 1) σ2 H2 ∧ Ex H1 H2, bk := tz D } (σ'.set j (some x)) H')
    (hd : ∀ σ' H', Ex H H' → Pv xs.length σ' H' → tz D σ' H') : tSeq (tFor (iTup K tl) (gName j) tu) tz D σ H :=
  h H (Ex.refl H) _ fun v H1 e1 ⟨p, ep, hp⟩ => by
    subst ep
    exact ⟨p, rfl, ⟨xs, hp⟩, for_tup (D := { D with nx := tz D }) (fun i σ' H' => Pv i σ' H' ∧ Ex H1 H') ⟨h0 H1 e1, Ex.refl _⟩ (fun i σ' H' _ q => ex_t q.2 hp) (fun i x σ' H' hx q => hs H1 e1 i x σ' H' hx q.1 q.2) fun σ' H' q => hd σ' H' (e1.trans q.2) q.1⟩
theorem if_sq5 {b : Bool} {ds : List Dd} {i : Nat} {x : V} (hx : σ[i]? = some (some x)) (h : Is K G (sq5 b ds) x) : Itf K (iSeqV K i) σ G ds := by
  cases b
  · exact if_seqL hx h
  · exact if_seqU hx h
theorem rc_tup5 {b : Bool} {ds : List Dd} : Rc K (rTupS K) [sq5 b ds] (.U ds) := by
  cases b
  · exact rc_tupLd
  · exact rc_tupUd
theorem rf_tup5 {b : Bool} {ds : List Dd} : Rcf K (rTupS K) [sq5 b ds] (.U ds) := by
  cases b
  · exact rf_tupL
  · exact rf_tupU
end
section
variable {P : Program} {w : World} {K : PySem.W.Frag} {mg : Str → Option Value} {base : Heap}
/-! ### UnknownName(name) -/
structure UnTxt (K : PySem.W.Frag) (mg : Str → Option Value) (CU fU CS CT CB : Addr) : Prop where
  gN : mg "UnknownName" = some (.ref CU)
  gS : mg "StampError" = some (.ref CS)
  gT : mg "NameTaken" = some (.ref CT)
  gB : mg "BadName" = some (.ref CB)
  bV : mg "ValueError" = none
  oex : OexC K CU
  iC : PySem.W.findIn K (.ref CU) "__init__" = some (some (.ref fU))
  tI : PySem.W.typeIn K (.ref fU) = some (.type "function")
  nr : PySem.W.findIn K (.ref CU) "name" = some none
  xf : XfC K CU
  xd : ExdC K CU
  em : PySem.W.exmOne K (.ref CU) (.ref CU) = some true
  ems : PySem.W.exmOne K (.ref CU) (.ref CS) = some true
  kT : PySem.W.kitOne K (.ref CU) (.ref CT) = some false
  kB : PySem.W.kitOne K (.ref CU) (.ref CB) = some false
  kV : PySem.W.kitOne K (.ref CU) (.type "ValueError") = some true
abbrev s_UnknownName___init__ : Stmt := inClass (topS 9) 0
theorem sc_UnknownName___init__ : FnScope ["self", "name"] ["self", "name"] (defScope s_UnknownName___init__) := ⟨rfl, rfl, rfl, by decide +kernel, rfl, by decide +kernel, by decide +kernel⟩

def spUn (K : PySem.W.Frag) (CU : Addr) : Sp := fun vs A Q _ => ∃ (a : Addr) (m : List Nat), vs = [.ref a, .str (S m)] ∧ A a = some (exo a CU none) ∧ ∀ d, A d = none → d ≠ a → Q .non (upd (upd A d (exd d [("name", .str (S m))])) a (exo a CU (some d)))
theorem ok_un {f CU fU CS CT CB : Addr} {fd : FuncData} (F : Fun K "__init__" "UnknownName.__init__" s_UnknownName___init__ f fd) (TU : UnTxt K mg CU fU CS CT CB) : FnOk P w K mg base CX0 1 f fd ["self", "name"] (spUn K CU) := by
  have sc := sc_UnknownName___init__
  refine F.ok sc (fun vs H Q E h => ?_) (fun cdv A outer s H vs Q E hr h => ?_)
  · obtain ⟨a, m, rfl, _⟩ := h
    rfl
  obtain ⟨a, m, rfl, ha, hk⟩ := h
  refine ⟨_, (pss_one (ps_ost (pv 0) (pv 1))), ?_⟩
  exact ⟨_, rfl, _, rfl, a, CU, rfl, TU.oex, TU.nr, .inl ⟨ha, fun d hd hda => hk d hd hda⟩⟩
/-! ### names that may be unknown -/
abbrev s_checked_names : Stmt := topS 25
theorem sc_checked_names : FnScope ["stock", "names", "name"] ["stock", "names"] (defScope s_checked_names) := ⟨rfl, rfl, rfl, by decide +kernel, rfl, by decide +kernel, by decide +kernel⟩

abbrev okN (sts : List (List Nat × List Nat)) (r : Row) : Bool := r.all fun m => decide (m ∈ nmV sts)
abbrev badN (sts : List (List Nat × List Nat)) (r : Row) : List Nat := (r.find? fun m => !decide (m ∈ nmV sts)).getD []
abbrev unEr (CU : Addr) (m : List Nat) (cls : Value) (d : Option Addr) (H : Hp) : Prop := cls = .ref CU ∧ ∃ dd, d = some dd ∧ H dd = some (.xd [("name", .str (S m))])
abbrev SRow := (Nat × List (List Nat × List Nat)) × Bool × Row
abbrev spX_cn (K : PySem.W.Frag) (C CU : Addr) : Sp := spX K (fun a : SRow => a.2.2.length ≤ 1000) (fun a => [stockC K C (a.1.1 : Int) a.1.2, sq5 a.2.1 (tsD a.2.2)]) (fun a => okN a.1.2 a.2.2) (fun a => .U (tsD a.2.2)) (fun a => unEr CU (badN a.1.2 a.2.2))
theorem in_stock {sts : List (List Nat × List Nat)} {m : List Nat} : (sts.find? fun p => decide (p.1 = m)).isSome = decide (m ∈ nmV sts) := by
  rw [Bool.eq_iff_iff, List.find?_isSome, decide_eq_true_eq]
  constructor
  · rintro ⟨p, hp, e⟩
    exact List.mem_map.mpr ⟨p, hp, of_decide_eq_true e⟩
  · intro h
    obtain ⟨p, hp, e⟩ := List.mem_map.mp h
    exact ⟨p, hp, decide_eq_true e⟩
theorem fn_checked_names {C fC CU fU CS CT CB f : Addr} {fdC fd fdU : FuncData} (T : Txt K mg) (TS : StTxt K mg C) (TU : UnTxt K mg CU fU CS CT CB) (F : Fun K "checked_names" "checked_names" s_checked_names f fd) (hiC : PySem.W.findIn K (.ref C) "__contains__" = some (some (.ref fC))) (hfC : PySem.W.isFn K (.ref fC) = true) (FC : FnOk P w K mg base CX0 1 fC fdC ["self", "name"] (sp_contains K C)) (bC : Binds K fdC ["self", "name"] []) (F_un : FnOk P w K mg base CX0 1 fU fdU ["self", "name"] (spUn K CU)) (b_un : Binds K fdU ["self", "name"] []) : FnOk P w K mg base (L2N.CX P w) 3 f fd ["stock", "names"] (spX_cn K C CU) := by
  refine Fun.okXs F sc_checked_names (fun _ => rfl) fun cdv A outer s H a vs Q E hr hp hv hk hx => ?_
  obtain ⟨⟨n, sts⟩, b, r⟩ := a
  replace hp : r.length ≤ 1000 := hp
  rcases hv with _ | ⟨hs, _ | ⟨hy, _ | _⟩⟩
  rename_i x y
  replace hs : Is K H (stockC K C (n : Int) sts) x := hs
  replace hy : Is K H (sq5 b (tsD r)) y := hy
  have sc := sc_checked_names
  refine ⟨_, (pss_cons (ps_for PassesOwn.leaving rfl (pi_seqV (K := K) (pv 1)) (pg_name (i := 2) sc.nd rfl (Or.inl rfl)) (pss_one (ps_if (pt_cmpR (op_notInO hiC hfC FC bC (hr.mono (by decide))) (pv 2) (pv 0) rfl) (pss_one (L2N.ps_raise rfl (L2N.takes_of rfl rfl rfl rfl) (pmk_oexN TU.oex TU.iC TU.tI F_un (hr.mono (by decide)) b_un TU.gN (pa_cons (pv 2) pa_nil)))) pss_nil)))
    (pss_one (ps_ret (pe_callTy (cr_tuple_k (K := K)) (by rfl) T.b_tuple (by decide +kernel) (pa_cons (pv 1) pa_nil))))), ?_⟩
  refine b_for (K := K) (G := H) (ds := tsD r) (if_sq5 (i := 1) rfl hy) (Ex.refl H) (fun i σ' G' A' => ∃ z, σ' = [some x, some y, z] ∧ Ex H A' ∧ ∀ m ∈ r.take i, m ∈ nmV sts) (fun G1 A1 s1 => ⟨none, rfl, s1.a, fun m hm => by simp at hm⟩) ?_ ?_
  · rintro G1 eg i dd v σ' G' A' G2 A2 hdd ⟨z, rfl, ea, hall⟩ g3 g4 s2 hv
    obtain ⟨m, hm, rfl⟩ := tsD_at hdd
    obtain rfl : v = V.str (S m) := hv
    have ea2 := ea.trans s2.a
    unfold gName
    refine a_when1 (K := K) (b := !(sts.find? fun p => decide (p.1 = m)).isSome) (et1 (er_op (d1 := .s (S m)) (er_v rfl) (er_var (i := 0) rfl (hs.mono ea2)) ro_notInO)) (fun hb H1 e1 => ?_) fun hb H1 e1 => ?_
    · have hn : m ∉ nmV sts := by
        rw [in_stock] at hb
        simpa using hb
      have hno : okN sts r = false := by
        rw [List.all_eq_false]
        exact ⟨m, List.mem_of_getElem? hm, by simpa using hn⟩
      have hbd : badN sts r = m := by
        have : r.find? (fun m => !decide (m ∈ nmV sts)) = some m := by
          obtain ⟨h1, h2⟩ := List.getElem?_eq_some_iff.mp hm
          have e : r = r.take i ++ m :: r.drop (i + 1) := by
            rw [← h2, ← List.drop_eq_getElem_cons h1, List.take_append_drop]
          rw [e, List.find?_append]
          have h0 : (r.take i).find? (fun m => !decide (m ∈ nmV sts)) = none := List.find?_eq_none.mpr fun x hx => by simpa using hall x hx
          rw [h0]
          simp [hn]
        unfold badN
        rw [this]
        rfl
      refine ⟨_, rfl, by simp, fun ad had => ⟨ad, m, rfl, upd_same, fun d hd hda => ⟨rfl, d, [("name", .str (S m))], ?_, ?_, ex_out (Ex.new had) hd, ?_⟩⟩⟩
      · exact upd_same
      · rw [upd_ne hda]
        exact upd_same
      · have xf : Ex H1 (upd (del (upd (upd (upd H1 ad (exo ad CU none)) d (exd d [("name", .str (S m))])) ad (exo ad CU (some d))) ad) d (.xd [("name", .str (S m))])) := fun c o hc => by
          have nb : c ≠ ad := fun z => by rw [z, had] at hc; cases hc
          have nd : c ≠ d := fun z => by rw [z, ex_out (Ex.new had) hd] at hc; cases hc
          rw [upd_ne nd, del_ne nb, upd_ne nb, upd_ne nd, upd_ne nb]
          exact hc
        exact hx hno _ _ _ ((ea2.trans e1).trans xf) ⟨rfl, d, rfl, by rw [upd_same]; show _ = some (HO.xd [("name", V.str (S (badN sts r)))]); rw [hbd]⟩
    · have hin : m ∈ nmV sts := by
        rw [in_stock] at hb
        simpa using hb
      refine ⟨G2, ⟨some (.str (S m)), rfl, ea2.trans e1, fun q hq => ?_⟩, g3.trans s2.g, s2.v.trans e1⟩
      rw [List.take_add_one, hm] at hq
      rcases List.mem_append.mp hq with hq | hq
      · exact hall q hq
      · rw [List.mem_singleton.mp hq]
        exact hin
  · rintro σ' G' A' eg evv ⟨z, rfl, ea, hall⟩
    rw [tsD, List.length_map, List.take_length] at hall
    refine a_rete (K := K) (d := .U (tsD r)) (er_cb (era_cons (er_var (i := 1) rfl (hy.mono ea)) era_nil) rc_tup5) rfl ea fun v H' e z => hk ?_ v H' e z
    exact List.all_eq_true.mpr fun m hm => decide_eq_true (hall m hm)
end
end Mi

set_option maxHeartbeats 4000000
namespace Mi
open PySem PySem.Spec PyProof.Rows L2 Evl
local macro_rules | `(tactic| walk_at "side") => `(tactic| (first | assumption | omega | exact rfl | decide | (simp only [List.length_cons, List.length_nil, List.length_map, List.length_append, List.length_replicate] <;> omega)))
local macro_rules | `(tactic| walk_at "ro") => `(tactic| (first
  | with_reducible exact ro_I0
  | with_reducible exact ro_1018
  | with_reducible exact ro_neC
  | with_reducible exact ro_eqC
  | with_reducible exact ro_neI
  | with_reducible exact ro_eqI
  | with_reducible exact ro_neB
  | with_reducible exact ro_eqB
  | ((with_reducible apply ro_mod); (walk_at "side"))
  | ((with_reducible apply ro_div) <;> (walk_at "side"))
  | ((with_reducible apply ro_divW) <;> (walk_at "side"))
  | with_reducible exact ro_1012
  | with_reducible exact ro_1015
  | ((with_reducible apply ro_mulL) <;> (walk_at "side"))
  | ((with_reducible apply ro_mulR) <;> (walk_at "side"))
  | ((with_reducible apply ro_addC); (walk_at "side"))
  | ((with_reducible apply ro_ixC) <;> (walk_at "side"))
  | ((with_reducible apply ro_ixI) <;> (walk_at "side"))
  | ((with_reducible apply ro_ixIN) <;> (walk_at "side"))
  | ((with_reducible apply ro_ixT2) <;> (walk_at "side"))
  | ((with_reducible apply ro_ixG) <;> (walk_at "side"))
  | ((with_reducible apply ro_eq); exact rfl)
  | ((with_reducible apply ro_ne); exact rfl)
  | with_reducible exact ro_isN
  | with_reducible exact ro_notN
  | with_reducible exact ro_eqL
  | with_reducible exact ro_neL
  | with_reducible exact ro_eqU
  | ((with_reducible apply ro_cat); (walk_at "side"))
  | with_reducible exact ro_inLi
  | with_reducible exact ro_inNi
  | with_reducible exact ro_inUi
  | ((with_reducible apply ro_inL) <;> (walk_at "side"))
  | ((with_reducible apply ro_inN) <;> (walk_at "side"))
  | ((with_reducible apply ro_inU) <;> (walk_at "side"))))
local macro_rules | `(tactic| walk_at "rc") => `(tactic| (first
  | with_reducible exact rc_int
  | with_reducible exact rc_intB
  | with_reducible exact rc_max2
  | ((with_reducible apply rc_lenC); (walk_at "side"))
  | with_reducible exact rc_lenI
  | with_reducible exact rc_lenT
  | with_reducible exact rc_lenIN
  | with_reducible exact rc_lenTN
  | with_reducible exact rc_lenL
  | with_reducible exact rc_lenN
  | with_reducible exact rc_lenU
  | with_reducible exact rc_listL
  | with_reducible exact rc_listU
  | with_reducible exact rc_tupL
  | with_reducible exact rc_tupN
  | ((with_reducible apply rc_isi_int); decide +kernel)
  | ((with_reducible apply rc_isi_str); decide +kernel)
  | ((with_reducible apply rc_isi_bl); decide +kernel)
  | ((with_reducible apply rc_isi_non); decide +kernel)
  | ((with_reducible apply rc_isi_u); decide +kernel)
  | ((with_reducible apply rc_isi_l); decide +kernel)))
local macro_rules | `(tactic| walk_at "er") => `(tactic| (first
  | ((with_reducible apply er_var); (exact rfl); assumption)
  | ((with_reducible apply er_v); exact rfl)
  | with_reducible exact er_c
  | ((with_reducible apply er_pick); (walk_at "er"); (walk_at "er"); (walk_at "er"))
  | ((with_reducible apply er_op); (walk_at "er"); (walk_at "er"); (walk_at "ro"))
  | ((with_reducible apply er_cb); (walk_at "era"); (walk_at "rc"))
  | ((with_reducible apply er_lst'); (walk_at "era"); (exact rfl); (walk_at "side"))
  | ((with_reducible apply er_tup'); (walk_at "era"); (exact rfl); (walk_at "side"))
  | ((with_reducible apply er_notV); (walk_at "er"))
  | ((with_reducible apply er_andV); (walk_at "er"); (intro _; (walk_at "er")))
  | ((with_reducible apply er_orV); (walk_at "er"); (intro _; (walk_at "er")))
  | ((with_reducible apply er_ite); (walk_at "et"); (intro _; (walk_at "er")); (intro _; (walk_at "er")))))
local macro_rules | `(tactic| walk_at "era") => `(tactic| (first
  | with_reducible exact era_nil
  | ((with_reducible apply era_cons); (walk_at "er"); (walk_at "era"))))
local macro_rules | `(tactic| walk_at "et") => `(tactic| (first
  | ((with_reducible apply et_an); (walk_at "et"); (intro _; (walk_at "et")))
  | ((with_reducible apply et_orr); (walk_at "et"); (intro _; (walk_at "et")))
  | ((with_reducible apply et_nt); (walk_at "et"))
  | ((with_reducible apply et1); (walk_at "er"))
  | ((with_reducible apply et2); (walk_at "er"))))

section
variable {P : Program} {w : World} {K : PySem.W.Frag} {mg : Str → Option Value} {base : Heap}
abbrev s__law_whole : Stmt := topS 33
theorem sc__law_whole : FnScope ["value"] ["value"] (defScope s__law_whole) := ⟨rfl, rfl, rfl, by decide +kernel, rfl, by decide +kernel, by decide +kernel⟩

abbrev sp__law_whole (K : PySem.W.Frag) : Sp := spR K (fun _ : Int => True) (fun i => [.i i]) fun _ => .b true
theorem has__law_whole (T : Txt K mg) (h : At K mg "_law_whole" s__law_whole ["value"]) : Has P w K mg base 1 "_law_whole" ["value"] (sp__law_whole K) := by
  refine h.hasR sc__law_whole (fun _ => rfl) fun f cdv A outer s H i vs Q E hr hp hv hk => ?_
  rcases hv with _ | ⟨rfl, _ | _⟩
  have sc := sc__law_whole
  refine ⟨_, (pss_one (ps_ret (pe_and (pe_callB (cr_isi_k (K := K)) (by rfl) T.b_isinstance (by decide +kernel) (pa_cons (pv 0) (pa_cons (pe_bltn (v := .ty "int") (by rfl) T.b_int (by decide +kernel) rfl) pa_nil))) (pe_one (pe_not (pe_callB (cr_isi_k (K := K)) (by rfl) T.b_isinstance (by decide +kernel) (pa_cons (pv 0) (pa_cons (pe_bltn (v := .ty "bool") (by rfl) T.b_bool (by decide +kernel) rfl) pa_nil)))))))), ?_⟩
  exact a_rete (K := K) (er_andV (a := true) (b := !false) (er_cb (era_cons (er_v rfl) (era_cons er_c era_nil)) (rc_isi_int (b := true) (by decide +kernel))) fun _ => er_notV (er_cb (era_cons (er_v rfl) (era_cons er_c era_nil)) (rc_isi_int (b := false) (by decide +kernel)))) rfl (Ex.refl H) hk
/-! ### a row pressed -/
def idxV : Option Nat → V
  | none => .non
  | some k => .int (k : Int)
theorem findIdx_none {α : Type} {l : List α} {p : α → Bool} {i : Nat} {x : α} (h : l[i]? = some x) (hn : ∀ y ∈ l.take i, p y = false) (hx : p x = true) : l.findIdx? p = some i := by
  obtain ⟨hi, rfl⟩ := List.getElem?_eq_some_iff.mp h
  rw [List.findIdx?_eq_some_iff_getElem]
  refine ⟨hi, hx, fun j hj => ?_⟩
  have := hn l[j] (by
    rw [List.mem_take_iff_getElem]
    exact ⟨j, by omega, rfl⟩)
  simp [this]
abbrev s__law_place : Stmt := topS 38
theorem sc__law_place : FnScope ["names", "name", "k"] ["names", "name"] (defScope s__law_place) := ⟨rfl, rfl, rfl, by decide +kernel, rfl, by decide +kernel, by decide +kernel⟩

def plN (ns : List (List Nat)) (n : List Nat) : Option Nat := ns.findIdx? fun m => decide (m = n)
abbrev sp__law_place (K : PySem.W.Frag) : Sp := spR K (fun a : List (List Nat) × List Nat => a.1.length ≤ 1000) (fun a => [.l (vsl a.1), .s (S a.2)]) fun a => .v (idxV (plN a.1 a.2))
theorem has__law_place (T : Txt K mg) (h : At K mg "_law_place" s__law_place ["names", "name"]) : Has P w K mg base 1 "_law_place" ["names", "name"] (sp__law_place K) := by
  refine h.hasR sc__law_place (fun _ => rfl) fun f cdv A outer s H a vs Q E hr hp hv hk => ?_
  obtain ⟨ns, n⟩ := a
  replace hp : ns.length ≤ 1000 := hp
  rcases hv with _ | ⟨hs, _ | ⟨rfl, _ | _⟩⟩
  rename_i x
  replace hs : Is K H (.l (vsl ns)) x := hs
  have sc := sc__law_place
  refine ⟨_, (pss_cons (ps_for PassesOwn.never rfl (pi_range1 (by rfl) T.b_range (pa_cons (pe_callB (cr_len_k (K := K)) (by rfl) T.b_len (by decide +kernel) (pa_cons (pv 0) pa_nil)) pa_nil)) (pg_name (i := 2) sc.nd rfl (Or.inl rfl)) (pss_one (ps_if (pt_cmpR op_eq (pe_ix (ix_list_k (K := K)) (pv 0) (pv 2) (fun _ _ => rfl)) (pv 1) (nomark _)) (pss_one (ps_ret (pv 2))) pss_nil)))
    (pss_one (ps_ret pe_non))), ?_⟩
  refine b_forR1 (K := K) (n := ns.length) (era_cons (er_cb (era_cons (er_var rfl hs) era_nil) rc_lenLL) era_nil) (by omega) (fun i σ' H' => ∃ y, σ' = [some x, some (.str (S n)), y] ∧ Ex H H' ∧ ∀ m ∈ ns.take i, decide (m = n) = false) (fun H1 e1 => ⟨none, rfl, e1, by simp⟩) ?_ ?_
  · rintro i σ' H' hi ⟨y, rfl, e, hM⟩
    have hp1 : ns[i]? = some ns[i] := List.getElem?_eq_getElem hi
    generalize ns[i] = m at hp1
    refine a_when1 (K := K) (b := decide (m = n)) (et1 (er_op (d1 := .s (S m)) (er_op (er_var rfl (hs.mono e)) (er_v rfl) (ro_ixL (x := .str (S m)) (i := (i : Int)) (by omega) (by rw [Int.toNat_natCast]; unfold vsl; rw [List.getElem?_map, List.getElem?_map, hp1]; rfl))) (er_v rfl) ro_eqC)) (fun hb H3 e3 => ?_) fun hb H3 e3 => ?_
    · refine a_rete (K := K) (er_v rfl) ?_ (e.trans e3) hk
      show Dd.i (i : Int) = Dd.v (idxV (ns.findIdx? fun m => decide (m = n)))
      rw [findIdx_none hp1 hM hb]
      rfl
    · refine ⟨some (.int (i : Int)), rfl, e.trans e3, fun q hq => ?_⟩
      rw [List.take_add_one, hp1, List.mem_append] at hq
      rcases hq with hq | hq
      · exact hM q hq
      · have hq2 : q = m := by simpa using hq
        rw [hq2]
        exact hb
  · rintro σ' H' ⟨y, rfl, e, hM⟩
    rw [List.take_length] at hM
    refine a_rete (K := K) er_c ?_ e hk
    show Dd.v V.non = Dd.v (idxV (ns.findIdx? fun m => decide (m = n)))
    rw [List.findIdx?_eq_none_iff.mpr hM]
    rfl
end
end Mi

set_option maxHeartbeats 4000000
namespace Mi
open PySem PySem.Spec PyProof.Rows L2 Evl
local macro_rules | `(tactic| walk_at "side") => `(tactic| (first | assumption | omega | exact rfl | decide | (simp only [List.length_cons, List.length_nil, List.length_map, List.length_append, List.length_replicate] <;> omega)))
local macro_rules | `(tactic| walk_at "ro") => `(tactic| (first
  | with_reducible exact ro_I0
  | with_reducible exact ro_1018
  | with_reducible exact ro_neC
  | with_reducible exact ro_eqC
  | with_reducible exact ro_neI
  | with_reducible exact ro_eqI
  | with_reducible exact ro_neB
  | with_reducible exact ro_eqB
  | ((with_reducible apply ro_mod); (walk_at "side"))
  | ((with_reducible apply ro_div) <;> (walk_at "side"))
  | ((with_reducible apply ro_divW) <;> (walk_at "side"))
  | with_reducible exact ro_1012
  | with_reducible exact ro_1015
  | ((with_reducible apply ro_mulL) <;> (walk_at "side"))
  | ((with_reducible apply ro_mulR) <;> (walk_at "side"))
  | ((with_reducible apply ro_addC); (walk_at "side"))
  | ((with_reducible apply ro_ixC) <;> (walk_at "side"))
  | ((with_reducible apply ro_ixI) <;> (walk_at "side"))
  | ((with_reducible apply ro_ixIN) <;> (walk_at "side"))
  | ((with_reducible apply ro_ixT2) <;> (walk_at "side"))
  | ((with_reducible apply ro_ixG) <;> (walk_at "side"))
  | ((with_reducible apply ro_eq); exact rfl)
  | ((with_reducible apply ro_ne); exact rfl)
  | with_reducible exact ro_isN
  | with_reducible exact ro_notN
  | with_reducible exact ro_eqL
  | with_reducible exact ro_neL
  | with_reducible exact ro_eqU
  | ((with_reducible apply ro_cat); (walk_at "side"))
  | with_reducible exact ro_inLi
  | with_reducible exact ro_inNi
  | with_reducible exact ro_inUi
  | ((with_reducible apply ro_inL) <;> (walk_at "side"))
  | ((with_reducible apply ro_inN) <;> (walk_at "side"))
  | ((with_reducible apply ro_inU) <;> (walk_at "side"))))
local macro_rules | `(tactic| walk_at "rc") => `(tactic| (first
  | with_reducible exact rc_int
  | with_reducible exact rc_intB
  | with_reducible exact rc_max2
  | ((with_reducible apply rc_lenC); (walk_at "side"))
  | with_reducible exact rc_lenI
  | with_reducible exact rc_lenT
  | with_reducible exact rc_lenIN
  | with_reducible exact rc_lenTN
  | with_reducible exact rc_lenL
  | with_reducible exact rc_lenN
  | with_reducible exact rc_lenU
  | with_reducible exact rc_listL
  | with_reducible exact rc_listU
  | with_reducible exact rc_tupL
  | with_reducible exact rc_tupN
  | ((with_reducible apply rc_isi_int); decide +kernel)
  | ((with_reducible apply rc_isi_str); decide +kernel)
  | ((with_reducible apply rc_isi_bl); decide +kernel)
  | ((with_reducible apply rc_isi_non); decide +kernel)
  | ((with_reducible apply rc_isi_u); decide +kernel)
  | ((with_reducible apply rc_isi_l); decide +kernel)))
local macro_rules | `(tactic| walk_at "er") => `(tactic| (first
  | ((with_reducible apply er_var); (exact rfl); assumption)
  | ((with_reducible apply er_v); exact rfl)
  | with_reducible exact er_c
  | ((with_reducible apply er_pick); (walk_at "er"); (walk_at "er"); (walk_at "er"))
  | ((with_reducible apply er_op); (walk_at "er"); (walk_at "er"); (walk_at "ro"))
  | ((with_reducible apply er_cb); (walk_at "era"); (walk_at "rc"))
  | ((with_reducible apply er_lst'); (walk_at "era"); (exact rfl); (walk_at "side"))
  | ((with_reducible apply er_tup'); (walk_at "era"); (exact rfl); (walk_at "side"))
  | ((with_reducible apply er_notV); (walk_at "er"))
  | ((with_reducible apply er_andV); (walk_at "er"); (intro _; (walk_at "er")))
  | ((with_reducible apply er_orV); (walk_at "er"); (intro _; (walk_at "er")))
  | ((with_reducible apply er_ite); (walk_at "et"); (intro _; (walk_at "er")); (intro _; (walk_at "er")))))
local macro_rules | `(tactic| walk_at "era") => `(tactic| (first
  | with_reducible exact era_nil
  | ((with_reducible apply era_cons); (walk_at "er"); (walk_at "era"))))
local macro_rules | `(tactic| walk_at "et") => `(tactic| (first
  | ((with_reducible apply et_an); (walk_at "et"); (intro _; (walk_at "et")))
  | ((with_reducible apply et_orr); (walk_at "et"); (intro _; (walk_at "et")))
  | ((with_reducible apply et_nt); (walk_at "et"))
  | ((with_reducible apply et1); (walk_at "er"))
  | ((with_reducible apply et2); (walk_at "er"))))

section
variable {P : Program} {w : World} {K : PySem.W.Frag} {mg : Str → Option Value} {base : Heap}
abbrev s__law_miscount : Stmt := topS 46
theorem sc__law_miscount : FnScope ["many", "pick", "count"] ["many", "pick"] (defScope s__law_miscount) := ⟨rfl, rfl, rfl, by decide +kernel, rfl, by decide +kernel, by decide +kernel⟩

def misL (many : Int) : List Int := [if many - 1 > 0 then many - 1 else 0, many + 1, 0, many + 7]
def misM (many : Int) (pick : Nat) : Int := if (misL many).getD pick 0 = many then many + 1 else (misL many).getD pick 0
theorem mis_ok (many : Nat) (pick : Nat) (h : pick < 4) : 0 ≤ misM (many : Int) pick ∧ misM (many : Int) pick ≤ (many : Int) + 7 ∧ misM (many : Int) pick ≠ (many : Int) := by
  unfold misM misL
  match pick, h with
  | 0, _ => simp only [List.getD_cons_zero]; split <;> split at * <;> omega
  | 1, _ => simp only [List.getD_cons_succ, List.getD_cons_zero]; split <;> omega
  | 2, _ => simp only [List.getD_cons_succ, List.getD_cons_zero]; split <;> omega
  | 3, _ => simp only [List.getD_cons_succ, List.getD_cons_zero]; split <;> omega
abbrev sp__law_miscount (K : PySem.W.Frag) : Sp := spR K (fun a : Nat × Nat => a.2 < 4) (fun a => [.i (a.1 : Int), .i (a.2 : Int)]) fun a => .i (misM (a.1 : Int) a.2)
theorem has__law_miscount (T : Txt K mg) (h : At K mg "_law_miscount" s__law_miscount ["many", "pick"]) : Has P w K mg base 1 "_law_miscount" ["many", "pick"] (sp__law_miscount K) := by
  refine h.hasR sc__law_miscount (fun _ => rfl) fun f cdv A outer s H a vs Q E hr hp hv hk => ?_
  obtain ⟨many, pick⟩ := a
  replace hp : pick < 4 := hp
  rcases hv with _ | ⟨rfl, _ | ⟨rfl, _ | _⟩⟩
  have sc := sc__law_miscount
  refine ⟨_, (pss_cons (ps_set (i := 2) sc.nd rfl (Or.inl rfl) (pe_ix (ix_list_k (K := K)) (pe_lst (pa_cons (pe_callB cr_max2 (by rfl) T.b_max (by decide +kernel) (pa_cons pe_int (pa_cons (pe_op op_sub (pv 0) pe_int) pa_nil))) (pa_cons (pe_op op_add (pv 0) pe_int) (pa_cons pe_int (pa_cons (pe_op op_add (pv 0) pe_int) pa_nil))))) (pv 1) (fun _ _ => rfl)))
    (pss_cons (ps_if (pt_cmpR op_eq (pv 2) (pv 0) (nomark _)) (pss_one (ps_set (i := 2) sc.nd rfl (Or.inl rfl) (pe_op op_add (pv 0) pe_int))) pss_nil)
    (pss_one (ps_ret (pv 2))))), ?_⟩
  refine a_setv (K := K) (x := .int ((misL (many : Int)).getD pick 0)) (er_numN (ns := misL (many : Int)) (er_lst (vs := vis (misL (many : Int))) (era_cons (er_cb (era_cons er_c (era_cons (er_op (er_v rfl) er_c ro_I0) era_nil)) rc_max2) (era_cons (er_op (er_v rfl) er_c ro_I0) (era_cons er_c (era_cons (er_op (er_v rfl) er_c ro_I0) era_nil)))) (by simp [misL])) (er_v rfl) (by show pick < 4; exact hp)) fun H1 e1 => ?_
  have hk : ∀ v H', Ex H H' → Is K H' (.i (misM (many : Int) pick)) v → Q v H' := hk
  unfold misM at hk
  refine a_whenR (K := K) (fun σ2 H2 => σ2 = [some (.int (many : Int)), some (.int (pick : Int)), some (.int (if (misL (many : Int)).getD pick 0 = (many : Int) then (many : Int) + 1 else (misL (many : Int)).getD pick 0))] ∧ Ex H1 H2) (et1 (er_op (er_v rfl) (er_v rfl) ro_eqI)) ?u1 ?u2 ?u3
  case u3 =>
    intro hb H2 e2
    rw [if_neg (of_decide_eq_false hb)]
    exact ⟨rfl, e2⟩
  case u2 =>
    intro hr2 hb H2 e2
    refine a_setv1 (K := K) (x := .int ((many : Int) + 1)) (er_op (er_v rfl) er_c ro_I0) fun H3 e3 => ?_
    refine hr2 _ _ ?_
    rw [if_pos (of_decide_eq_true hb)]
    exact ⟨rfl, e2.trans e3⟩
  case u1 =>
    rintro σ2 H2 ⟨rfl, e2⟩
    exact a_rete (K := K) (er_v rfl) rfl (e1.trans e2) hk
end
end Mi

set_option maxHeartbeats 4000000
namespace Mi
open PySem PySem.Spec PyProof.Rows L2 Evl
local macro_rules | `(tactic| walk_at "side") => `(tactic| (first | assumption | omega | exact rfl | decide | (simp only [List.length_cons, List.length_nil, List.length_map, List.length_append, List.length_replicate] <;> omega)))
local macro_rules | `(tactic| walk_at "ro") => `(tactic| (first
  | with_reducible exact ro_I0
  | with_reducible exact ro_1018
  | with_reducible exact ro_neC
  | with_reducible exact ro_eqC
  | with_reducible exact ro_neI
  | with_reducible exact ro_eqI
  | with_reducible exact ro_neB
  | with_reducible exact ro_eqB
  | ((with_reducible apply ro_mod); (walk_at "side"))
  | ((with_reducible apply ro_div) <;> (walk_at "side"))
  | ((with_reducible apply ro_divW) <;> (walk_at "side"))
  | with_reducible exact ro_1012
  | with_reducible exact ro_1015
  | ((with_reducible apply ro_mulL) <;> (walk_at "side"))
  | ((with_reducible apply ro_mulR) <;> (walk_at "side"))
  | ((with_reducible apply ro_addC); (walk_at "side"))
  | ((with_reducible apply ro_ixC) <;> (walk_at "side"))
  | ((with_reducible apply ro_ixI) <;> (walk_at "side"))
  | ((with_reducible apply ro_ixIN) <;> (walk_at "side"))
  | ((with_reducible apply ro_ixT2) <;> (walk_at "side"))
  | ((with_reducible apply ro_ixG) <;> (walk_at "side"))
  | ((with_reducible apply ro_eq); exact rfl)
  | ((with_reducible apply ro_ne); exact rfl)
  | with_reducible exact ro_isN
  | with_reducible exact ro_notN
  | with_reducible exact ro_eqL
  | with_reducible exact ro_neL
  | with_reducible exact ro_eqU
  | ((with_reducible apply ro_cat); (walk_at "side"))
  | with_reducible exact ro_inLi
  | with_reducible exact ro_inNi
  | with_reducible exact ro_inUi
  | ((with_reducible apply ro_inL) <;> (walk_at "side"))
  | ((with_reducible apply ro_inN) <;> (walk_at "side"))
  | ((with_reducible apply ro_inU) <;> (walk_at "side"))))
local macro_rules | `(tactic| walk_at "rc") => `(tactic| (first
  | with_reducible exact rc_int
  | with_reducible exact rc_intB
  | with_reducible exact rc_max2
  | ((with_reducible apply rc_lenC); (walk_at "side"))
  | with_reducible exact rc_lenI
  | with_reducible exact rc_lenT
  | with_reducible exact rc_lenIN
  | with_reducible exact rc_lenTN
  | with_reducible exact rc_lenL
  | with_reducible exact rc_lenN
  | with_reducible exact rc_lenU
  | with_reducible exact rc_listL
  | with_reducible exact rc_listU
  | with_reducible exact rc_tupL
  | with_reducible exact rc_tupN
  | ((with_reducible apply rc_isi_int); decide +kernel)
  | ((with_reducible apply rc_isi_str); decide +kernel)
  | ((with_reducible apply rc_isi_bl); decide +kernel)
  | ((with_reducible apply rc_isi_non); decide +kernel)
  | ((with_reducible apply rc_isi_u); decide +kernel)
  | ((with_reducible apply rc_isi_l); decide +kernel)))
local macro_rules | `(tactic| walk_at "er") => `(tactic| (first
  | ((with_reducible apply er_var); (exact rfl); assumption)
  | ((with_reducible apply er_v); exact rfl)
  | with_reducible exact er_c
  | ((with_reducible apply er_pick); (walk_at "er"); (walk_at "er"); (walk_at "er"))
  | ((with_reducible apply er_op); (walk_at "er"); (walk_at "er"); (walk_at "ro"))
  | ((with_reducible apply er_cb); (walk_at "era"); (walk_at "rc"))
  | ((with_reducible apply er_lst'); (walk_at "era"); (exact rfl); (walk_at "side"))
  | ((with_reducible apply er_tup'); (walk_at "era"); (exact rfl); (walk_at "side"))
  | ((with_reducible apply er_notV); (walk_at "er"))
  | ((with_reducible apply er_andV); (walk_at "er"); (intro _; (walk_at "er")))
  | ((with_reducible apply er_orV); (walk_at "er"); (intro _; (walk_at "er")))
  | ((with_reducible apply er_ite); (walk_at "et"); (intro _; (walk_at "er")); (intro _; (walk_at "er")))))
local macro_rules | `(tactic| walk_at "era") => `(tactic| (first
  | with_reducible exact era_nil
  | ((with_reducible apply era_cons); (walk_at "er"); (walk_at "era"))))
local macro_rules | `(tactic| walk_at "et") => `(tactic| (first
  | ((with_reducible apply et_an); (walk_at "et"); (intro _; (walk_at "et")))
  | ((with_reducible apply et_orr); (walk_at "et"); (intro _; (walk_at "et")))
  | ((with_reducible apply et_nt); (walk_at "et"))
  | ((with_reducible apply et1); (walk_at "er"))
  | ((with_reducible apply et2); (walk_at "er"))))

section
variable {P : Program} {w : World} {K : PySem.W.Frag} {mg : Str → Option Value} {base : Heap}
abbrev s__law_sum : Stmt := topS 40
theorem sc__law_sum : FnScope ["names", "tags", "line", "total", "name"] ["names", "tags", "line"] (defScope s__law_sum) := ⟨rfl, rfl, rfl, by decide +kernel, rfl, by decide +kernel, by decide +kernel⟩

def plK (ns : List (List Nat)) (n : List Nat) : Nat := (plN ns n).getD 0
def sumM (ns : List (List Nat)) (tg : List Int) (line : List (List Nat)) : Int := line.foldl (fun t n => t + tg.getD (plK ns n) 0) 0
theorem pl_in {ns : List (List Nat)} {n : List Nat} (h : n ∈ ns) : plN ns n = some (plK ns n) ∧ plK ns n < ns.length ∧ ns[plK ns n]? = some n := by
  unfold plK plN
  cases hf : ns.findIdx? fun m => decide (m = n) with
  | none =>
    have := List.findIdx?_eq_none_iff.mp hf n h
    simp at this
  | some k =>
    obtain ⟨h1, h2, _⟩ := List.findIdx?_eq_some_iff_getElem.mp hf
    refine ⟨rfl, h1, ?_⟩
    show ns[k]? = some n
    rw [List.getElem?_eq_getElem h1, of_decide_eq_true h2]
theorem sum_next {ns : List (List Nat)} {tg : List Int} {line : List (List Nat)} {i : Nat} {n : List Nat} (h : line[i]? = some n) : sumM ns tg (line.take (i + 1)) = sumM ns tg (line.take i) + tg.getD (plK ns n) 0 := by
  unfold sumM
  rw [List.take_add_one, h, List.foldl_append]
  rfl
abbrev txD (ns : List (List Nat)) : List Dd := ns.map fun l => Dd.s (S l)
abbrev sp__law_sum (K : PySem.W.Frag) : Sp := spR K (fun a : List (List Nat) × List Int × Bool × List (List Nat) => (a.1.length ≤ 1000 ∧ a.2.1.length = a.1.length) ∧ ∀ n ∈ a.2.2.2, n ∈ a.1) (fun a => [.l (vsl a.1), .l (vis a.2.1), sq5 a.2.2.1 (txD a.2.2.2)]) fun a => .i (sumM a.1 a.2.1 a.2.2.2)
theorem has__law_sum (T : Txt K mg) (h : At K mg "_law_sum" s__law_sum ["names", "tags", "line"]) (C__law_place : Has P w K mg base 1 "_law_place" ["names", "name"] (sp__law_place K)) : Has P w K mg base 2 "_law_sum" ["names", "tags", "line"] (sp__law_sum K) := by
  refine h.hasR sc__law_sum (fun _ => rfl) fun f cdv A outer s H a vs Q E hr hp hv hk => ?_
  obtain ⟨ns, tg, b, line⟩ := a
  obtain ⟨⟨h1, h2⟩, h3⟩ := hp
  replace h1 : ns.length ≤ 1000 := h1
  replace h2 : tg.length = ns.length := h2
  replace h3 : ∀ n ∈ line, n ∈ ns := h3
  rcases hv with _ | ⟨hn, _ | ⟨ht, _ | ⟨hl, _ | _⟩⟩⟩
  rename_i vn vt vl
  replace hn : Is K H (.l (vsl ns)) vn := hn
  replace ht : Is K H (.l (vis tg)) vt := ht
  replace hl : Is K H (sq5 b (txD line)) vl := hl
  have sc := sc__law_sum
  refine ⟨_, (pss_cons (ps_set (i := 3) sc.nd rfl (Or.inl rfl) pe_int)
    (pss_cons (ps_for PassesOwn.never rfl (pi_seqV (K := K) (pv 2)) (pg_name (i := 4) sc.nd rfl (Or.inl rfl)) (pss_one (ps_set (i := 3) sc.nd rfl (Or.inl rfl) (pe_op op_add (pv 3) (pe_ix (ix_list_k (K := K)) (pv 1) (pe_callH C__law_place (hr.mono (by decide)) (pa_cons (pv 0) (pa_cons (pv 4) pa_nil))) (fun _ _ => rfl))))))
    (pss_one (ps_ret (pv 3))))), ?_⟩
  refine a_setv (K := K) (x := .int 0) er_c fun H1 e1 => ?_
  refine b_for (K := K) (G := H1) (ds := txD line) (if_sq5 (i := 2) rfl (hl.mono e1)) (Ex.refl H1) (fun i σ' G' A' => ∃ y4, σ' = [some vn, some vt, some vl, some (.int (sumM ns tg (line.take i))), y4] ∧ Ex H G') (fun G1 A1 s => ⟨none, rfl, e1.trans s.g⟩) ?_ ?_
  · rintro G1 eg i d v σ' G' A' G2 A2 hd ⟨y4, rfl, g0⟩ e3 e4 s2 hv
    obtain ⟨n, hi, rfl⟩ : ∃ n, line[i]? = some n ∧ Dd.s (S n) = d := by
      rw [List.getElem?_map] at hd
      cases q : line[i]? with
      | none => rw [q] at hd; cases hd
      | some n => rw [q] at hd; exact ⟨n, rfl, Option.some.inj hd⟩
    obtain rfl : v = V.str (S n) := hv
    obtain ⟨p1, p2, _⟩ := pl_in (h3 n (List.mem_of_getElem? hi))
    have a2 := (g0.trans s2.g).trans s2.v
    refine a_setv1 (K := K) (x := .int (sumM ns tg (line.take (i + 1)))) (Er.to (er_op (er_v rfl) (er_num (n := plK ns n) (er_var rfl (ht.mono a2)) (Er.to (er_call (ns, n) (era_cons (er_var rfl (hn.mono a2)) (era_cons (er_v rfl) era_nil)) rfl h1) (by show Dd.v (idxV (plN ns n)) = _; rw [p1]; rfl)) (by omega)) ro_I0) (by rw [sum_next hi])) fun H3 e3' => ?_
    exact ⟨G2, ⟨_, rfl, g0.trans s2.g⟩, e3.trans s2.g, s2.v.trans e3'⟩
  · rintro σ' G' A' e3 e4 ⟨y4, rfl, g0⟩
    refine a_rete (K := K) (er_v rfl) ?_ (g0.trans e4) hk
    rw [List.length_map, List.take_length]
end
end Mi

set_option maxHeartbeats 4000000
namespace Mi
open PySem PySem.Spec PyProof.Rows L2 Evl
local macro_rules | `(tactic| walk_at "side") => `(tactic| (first | assumption | omega | exact rfl | decide | (simp only [List.length_cons, List.length_nil, List.length_map, List.length_append, List.length_replicate] <;> omega)))
local macro_rules | `(tactic| walk_at "ro") => `(tactic| (first
  | with_reducible exact ro_I0
  | with_reducible exact ro_1018
  | with_reducible exact ro_neC
  | with_reducible exact ro_eqC
  | with_reducible exact ro_neI
  | with_reducible exact ro_eqI
  | with_reducible exact ro_neB
  | with_reducible exact ro_eqB
  | ((with_reducible apply ro_mod); (walk_at "side"))
  | ((with_reducible apply ro_div) <;> (walk_at "side"))
  | ((with_reducible apply ro_divW) <;> (walk_at "side"))
  | with_reducible exact ro_1012
  | with_reducible exact ro_1015
  | ((with_reducible apply ro_mulL) <;> (walk_at "side"))
  | ((with_reducible apply ro_mulR) <;> (walk_at "side"))
  | ((with_reducible apply ro_addC); (walk_at "side"))
  | ((with_reducible apply ro_ixC) <;> (walk_at "side"))
  | ((with_reducible apply ro_ixI) <;> (walk_at "side"))
  | ((with_reducible apply ro_ixIN) <;> (walk_at "side"))
  | ((with_reducible apply ro_ixT2) <;> (walk_at "side"))
  | ((with_reducible apply ro_ixG) <;> (walk_at "side"))
  | ((with_reducible apply ro_eq); exact rfl)
  | ((with_reducible apply ro_ne); exact rfl)
  | with_reducible exact ro_isN
  | with_reducible exact ro_notN
  | with_reducible exact ro_eqL
  | with_reducible exact ro_neL
  | with_reducible exact ro_eqU
  | ((with_reducible apply ro_cat); (walk_at "side"))
  | with_reducible exact ro_inLi
  | with_reducible exact ro_inNi
  | with_reducible exact ro_inUi
  | ((with_reducible apply ro_inL) <;> (walk_at "side"))
  | ((with_reducible apply ro_inN) <;> (walk_at "side"))
  | ((with_reducible apply ro_inU) <;> (walk_at "side"))))
local macro_rules | `(tactic| walk_at "rc") => `(tactic| (first
  | with_reducible exact rc_int
  | with_reducible exact rc_intB
  | with_reducible exact rc_max2
  | ((with_reducible apply rc_lenC); (walk_at "side"))
  | with_reducible exact rc_lenI
  | with_reducible exact rc_lenT
  | with_reducible exact rc_lenIN
  | with_reducible exact rc_lenTN
  | with_reducible exact rc_lenL
  | with_reducible exact rc_lenN
  | with_reducible exact rc_lenU
  | with_reducible exact rc_listL
  | with_reducible exact rc_listU
  | with_reducible exact rc_tupL
  | with_reducible exact rc_tupN
  | ((with_reducible apply rc_isi_int); decide +kernel)
  | ((with_reducible apply rc_isi_str); decide +kernel)
  | ((with_reducible apply rc_isi_bl); decide +kernel)
  | ((with_reducible apply rc_isi_non); decide +kernel)
  | ((with_reducible apply rc_isi_u); decide +kernel)
  | ((with_reducible apply rc_isi_l); decide +kernel)))
local macro_rules | `(tactic| walk_at "er") => `(tactic| (first
  | ((with_reducible apply er_var); (exact rfl); assumption)
  | ((with_reducible apply er_v); exact rfl)
  | with_reducible exact er_c
  | ((with_reducible apply er_pick); (walk_at "er"); (walk_at "er"); (walk_at "er"))
  | ((with_reducible apply er_op); (walk_at "er"); (walk_at "er"); (walk_at "ro"))
  | ((with_reducible apply er_cb); (walk_at "era"); (walk_at "rc"))
  | ((with_reducible apply er_lst'); (walk_at "era"); (exact rfl); (walk_at "side"))
  | ((with_reducible apply er_tup'); (walk_at "era"); (exact rfl); (walk_at "side"))
  | ((with_reducible apply er_notV); (walk_at "er"))
  | ((with_reducible apply er_andV); (walk_at "er"); (intro _; (walk_at "er")))
  | ((with_reducible apply er_orV); (walk_at "er"); (intro _; (walk_at "er")))
  | ((with_reducible apply er_ite); (walk_at "et"); (intro _; (walk_at "er")); (intro _; (walk_at "er")))))
local macro_rules | `(tactic| walk_at "era") => `(tactic| (first
  | with_reducible exact era_nil
  | ((with_reducible apply era_cons); (walk_at "er"); (walk_at "era"))))
local macro_rules | `(tactic| walk_at "et") => `(tactic| (first
  | ((with_reducible apply et_an); (walk_at "et"); (intro _; (walk_at "et")))
  | ((with_reducible apply et_orr); (walk_at "et"); (intro _; (walk_at "et")))
  | ((with_reducible apply et_nt); (walk_at "et"))
  | ((with_reducible apply et1); (walk_at "er"))
  | ((with_reducible apply et2); (walk_at "er"))))

section
variable {P : Program} {w : World} {K : PySem.W.Frag} {mg : Str → Option Value} {base : Heap}
abbrev s__law_names : Stmt := topS 36
theorem sc__law_names : FnScope ["digit", "many", "near", "menu", "k"] ["digit", "many", "near"] (defScope s__law_names) := ⟨rfl, rfl, rfl, by decide +kernel, rfl, by decide +kernel, by decide +kernel⟩

def mnL : Bool → List (List Nat)
  | false => [[120], [98, 101, 116, 97], [121, 50], [109, 115], [113], [99, 111, 112, 121, 49, 48], [122], [97, 108, 112, 104, 97, 49]]
  | true => [[110, 49], [110, 50], [110], [110, 49, 50], [110, 50, 49], [110, 110], [110, 48], [110, 49, 48]]
def sufL : List (List Nat) := [[], [97], [98, 50], [99]]
def nmN (d : Nat) (near : Bool) (k : Nat) : List Nat := (mnL near).getD ((d + k) % 8) [] ++ sufL.getD (k / 8) []
def nmsN (d : Nat) (near : Bool) (many : Nat) : List (List Nat) := (List.range many).map (nmN d near)
theorem mnL_len : ∀ b : Bool, (mnL b).length = 8 ∧ ∀ i < 8, ((mnL b).getD i []).length ≤ 8 := by decide
theorem sufL_len : ∀ j < 4, (sufL.getD j []).length ≤ 2 := by decide
theorem nms_all : ∀ d < 8, ∀ b : Bool, (nmsN d b 26).Nodup ∧ ∀ n ∈ nmsN d b 26, nameOk n = true ∧ n.length ≤ 8 := by decide +kernel
theorem nms_ok {d many : Nat} {b : Bool} (hd : d < 8) (hm : many ≤ 26) : (nmsN d b many).Nodup ∧ ∀ n ∈ nmsN d b many, nameOk n = true ∧ n.length ≤ 8 := by
  obtain ⟨h1, h2⟩ := nms_all d hd b
  have e : nmsN d b many = (nmsN d b 26).take many := by
    unfold nmsN
    rw [← List.map_take, List.take_range, Nat.min_eq_left hm]
  rw [e]
  exact ⟨h1.sublist (List.take_sublist _ _), fun n hn => h2 n (List.mem_of_mem_take hn)⟩
abbrev sp__law_names (K : PySem.W.Frag) : Sp := spR K (fun a : Nat × Nat × Bool => a.1 < 8 ∧ a.2.1 ≤ 26) (fun a => [.i (a.1 : Int), .i (a.2.1 : Int), .b a.2.2]) fun a => .n (vsl (nmsN a.1 a.2.2 a.2.1))
theorem has__law_names (T : Txt K mg) (h : At K mg "_law_names" s__law_names ["digit", "many", "near"]) : Has P w K mg base 1 "_law_names" ["digit", "many", "near"] (sp__law_names K) := by
  refine h.hasR sc__law_names (fun _ => rfl) fun f cdv A outer s H a vs Q E hr hp hv hk => ?_
  obtain ⟨d, many, near⟩ := a
  obtain ⟨hd, hm⟩ := hp
  replace hd : d < 8 := hd
  replace hm : many ≤ 26 := hm
  rcases hv with _ | ⟨rfl, _ | ⟨rfl, _ | ⟨rfl, _ | _⟩⟩⟩
  have sc := sc__law_names
  refine ⟨_, (pss_cons (ps_set (i := 3) sc.nd rfl (Or.inr rfl) (pe_lst (pa_cons (pe_strS [120] (by rfl)) (pa_cons (pe_strS [98, 101, 116, 97] (by rfl)) (pa_cons (pe_strS [121, 50] (by rfl)) (pa_cons (pe_strS [109, 115] (by rfl)) (pa_cons (pe_strS [113] (by rfl)) (pa_cons (pe_strS [99, 111, 112, 121, 49, 48] (by rfl)) (pa_cons (pe_strS [122] (by rfl)) (pa_cons (pe_strS [97, 108, 112, 104, 97, 49] (by rfl)) pa_nil))))))))))
    (pss_cons (ps_if (pt_val (pv 2)) (pss_one (ps_set (i := 3) sc.nd rfl (Or.inr rfl) (pe_lst (pa_cons (pe_strS [110, 49] (by rfl)) (pa_cons (pe_strS [110, 50] (by rfl)) (pa_cons (pe_strS [110] (by rfl)) (pa_cons (pe_strS [110, 49, 50] (by rfl)) (pa_cons (pe_strS [110, 50, 49] (by rfl)) (pa_cons (pe_strS [110, 110] (by rfl)) (pa_cons (pe_strS [110, 48] (by rfl)) (pa_cons (pe_strS [110, 49, 48] (by rfl)) pa_nil))))))))))) pss_nil)
    (pss_one (ps_ret (pe_lc (own := [("k", 4)]) (g := gName 4) (by rfl) sc.nd (pi_range1 (by rfl) T.b_range (pa_cons (pv 1) pa_nil)) (blkOk_by (N := ["digit", "many", "near", "menu", "k"]) (sc := defScope s__law_names) (own := [("k", 4)]) (by decide +kernel)) (fun _ _ _ _ _ => (pg_name (i := 4) sc.nd rfl (Or.inl rfl))) (fun _ _ _ _ _ => pts_nil) (fun _ _ _ _ _ => (pe_op op_addS (pe_ix (ix_list_k (K := K)) (pv 3) (pe_op op_mod (pe_callTy cr_int (by rfl) T.b_int (by decide +kernel) (pa_cons (pe_op op_add (pv 0) (pv 4)) pa_nil)) pe_int) (fun _ _ => rfl)) (pe_ix (ix_list_k (K := K)) (pe_lst (pa_cons (pe_strS [] (by rfl)) (pa_cons (pe_strS [97] (by rfl)) (pa_cons (pe_strS [98, 50] (by rfl)) (pa_cons (pe_strS [99] (by rfl)) pa_nil))))) (pe_op op_fdiv (pv 4) pe_int) (fun _ _ => rfl))))))))), ?_⟩
  refine a_asg (K := K) (d := .n (vsl (mnL false))) (er_lst (vs := vsl (mnL false)) (era_cons er_c (era_cons er_c (era_cons er_c (era_cons er_c (era_cons er_c (era_cons er_c (era_cons er_c (era_cons er_c era_nil)))))))) (by decide)) fun vm H1 e1 hvm => ?_
  refine a_whenR (K := K) (fun σ2 H2 => ∃ v, σ2 = [some (.int (d : Int)), some (.int (many : Int)), some (.bl near), some v, none] ∧ Ex H1 H2 ∧ Is K H2 (.n (vsl (mnL near))) v) (et2 (er_v rfl)) ?u1 ?u2 ?u3
  case u3 =>
    intro hb H2 e2
    subst hb
    exact ⟨vm, rfl, e2, hvm.mono e2⟩
  case u2 =>
    intro hr2 hb H2 e2
    refine a_asg1 (K := K) (d := .n (vsl (mnL true))) (er_lst (vs := vsl (mnL true)) (era_cons er_c (era_cons er_c (era_cons er_c (era_cons er_c (era_cons er_c (era_cons er_c (era_cons er_c (era_cons er_c era_nil)))))))) (by decide)) fun v H3 e3 hv => ?_
    refine hr2 _ _ ?_
    subst hb
    exact ⟨v, rfl, e2.trans e3, hv⟩
  case u1 =>
    rintro σ2 H2 ⟨v, rfl, e2, hv⟩
    obtain ⟨m8, ml⟩ := mnL_len near
    refine a_rete (K := K) (er_lcR' (K := K) (n := many) (vs := [4]) (fun k => V.str (S (nmN d near k))) (era_cons (er_v rfl) era_nil) (by omega) (fun _ => rfl) (fun k H3 e3 hk3 => ?_)) ?_ (e1.trans e2) hk
    · have q8 : (((d : Int) + (k : Int)) % 8).toNat = (d + k) % 8 := by omega
      have r8 : (d + k) % 8 < 8 := Nat.mod_lt _ (by decide)
      have q4 : ((k : Int) / 8).toNat = k / 8 := by omega
      have r4 : k / 8 < 4 := by omega
      have l1 := ml _ r8
      have l2 := sufL_len _ r4
      have s4 : sufL.length = 4 := rfl
      exact er_op (d1 := .s (S ((mnL near).getD ((d + k) % 8) []))) (d2 := .s (S (sufL.getD (k / 8) []))) (Er.to (er_op (er_var rfl (hv.mono e3)) (er_op (er_cb (era_cons (er_op (er_v rfl) (er_v rfl) ro_I0) era_nil) rc_int) er_c (ro_mod (by decide))) (ro_ixSN (by omega) (by omega))) (by rw [q8])) (Er.to (er_op (er_lst (vs := vsl sufL) (era_cons er_c (era_cons er_c (era_cons er_c (era_cons er_c era_nil)))) (by decide)) (er_op (er_v rfl) er_c (ro_div (by decide) (by decide))) (ro_ixSN (by omega) (by omega))) (by rw [q4])) (ro_addC (by omega))
    · show Dd.n _ = Dd.n (vsl (nmsN d near many))
      simp only [nmsN, vsl, vss, List.map_map]
      rfl
end
end Mi

set_option maxHeartbeats 4000000
namespace Mi
open PySem PySem.Spec PyProof.Rows L2 Evl
local macro_rules | `(tactic| walk_at "side") => `(tactic| (first | assumption | omega | exact rfl | decide | (simp only [List.length_cons, List.length_nil, List.length_map, List.length_append, List.length_replicate] <;> omega)))
local macro_rules | `(tactic| walk_at "ro") => `(tactic| (first
  | with_reducible exact ro_I0
  | with_reducible exact ro_1018
  | with_reducible exact ro_neC
  | with_reducible exact ro_eqC
  | with_reducible exact ro_neI
  | with_reducible exact ro_eqI
  | with_reducible exact ro_neB
  | with_reducible exact ro_eqB
  | ((with_reducible apply ro_mod); (walk_at "side"))
  | ((with_reducible apply ro_div) <;> (walk_at "side"))
  | ((with_reducible apply ro_divW) <;> (walk_at "side"))
  | with_reducible exact ro_1012
  | with_reducible exact ro_1015
  | ((with_reducible apply ro_mulL) <;> (walk_at "side"))
  | ((with_reducible apply ro_mulR) <;> (walk_at "side"))
  | ((with_reducible apply ro_addC); (walk_at "side"))
  | ((with_reducible apply ro_ixC) <;> (walk_at "side"))
  | ((with_reducible apply ro_ixI) <;> (walk_at "side"))
  | ((with_reducible apply ro_ixIN) <;> (walk_at "side"))
  | ((with_reducible apply ro_ixT2) <;> (walk_at "side"))
  | ((with_reducible apply ro_ixG) <;> (walk_at "side"))
  | ((with_reducible apply ro_eq); exact rfl)
  | ((with_reducible apply ro_ne); exact rfl)
  | with_reducible exact ro_isN
  | with_reducible exact ro_notN
  | with_reducible exact ro_eqL
  | with_reducible exact ro_neL
  | with_reducible exact ro_eqU
  | ((with_reducible apply ro_cat); (walk_at "side"))
  | with_reducible exact ro_inLi
  | with_reducible exact ro_inNi
  | with_reducible exact ro_inUi
  | ((with_reducible apply ro_inL) <;> (walk_at "side"))
  | ((with_reducible apply ro_inN) <;> (walk_at "side"))
  | ((with_reducible apply ro_inU) <;> (walk_at "side"))))
local macro_rules | `(tactic| walk_at "rc") => `(tactic| (first
  | with_reducible exact rc_int
  | with_reducible exact rc_intB
  | with_reducible exact rc_max2
  | ((with_reducible apply rc_lenC); (walk_at "side"))
  | with_reducible exact rc_lenI
  | with_reducible exact rc_lenT
  | with_reducible exact rc_lenIN
  | with_reducible exact rc_lenTN
  | with_reducible exact rc_lenL
  | with_reducible exact rc_lenN
  | with_reducible exact rc_lenU
  | with_reducible exact rc_listL
  | with_reducible exact rc_listU
  | with_reducible exact rc_tupL
  | with_reducible exact rc_tupN
  | ((with_reducible apply rc_isi_int); decide +kernel)
  | ((with_reducible apply rc_isi_str); decide +kernel)
  | ((with_reducible apply rc_isi_bl); decide +kernel)
  | ((with_reducible apply rc_isi_non); decide +kernel)
  | ((with_reducible apply rc_isi_u); decide +kernel)
  | ((with_reducible apply rc_isi_l); decide +kernel)))
local macro_rules | `(tactic| walk_at "er") => `(tactic| (first
  | ((with_reducible apply er_var); (exact rfl); assumption)
  | ((with_reducible apply er_v); exact rfl)
  | with_reducible exact er_c
  | ((with_reducible apply er_pick); (walk_at "er"); (walk_at "er"); (walk_at "er"))
  | ((with_reducible apply er_op); (walk_at "er"); (walk_at "er"); (walk_at "ro"))
  | ((with_reducible apply er_cb); (walk_at "era"); (walk_at "rc"))
  | ((with_reducible apply er_lst'); (walk_at "era"); (exact rfl); (walk_at "side"))
  | ((with_reducible apply er_tup'); (walk_at "era"); (exact rfl); (walk_at "side"))
  | ((with_reducible apply er_notV); (walk_at "er"))
  | ((with_reducible apply er_andV); (walk_at "er"); (intro _; (walk_at "er")))
  | ((with_reducible apply er_orV); (walk_at "er"); (intro _; (walk_at "er")))
  | ((with_reducible apply er_ite); (walk_at "et"); (intro _; (walk_at "er")); (intro _; (walk_at "er")))))
local macro_rules | `(tactic| walk_at "era") => `(tactic| (first
  | with_reducible exact era_nil
  | ((with_reducible apply era_cons); (walk_at "er"); (walk_at "era"))))
local macro_rules | `(tactic| walk_at "et") => `(tactic| (first
  | ((with_reducible apply et_an); (walk_at "et"); (intro _; (walk_at "et")))
  | ((with_reducible apply et_orr); (walk_at "et"); (intro _; (walk_at "et")))
  | ((with_reducible apply et_nt); (walk_at "et"))
  | ((with_reducible apply et1); (walk_at "er"))
  | ((with_reducible apply et2); (walk_at "er"))))

section
variable {P : Program} {w : World} {K : PySem.W.Frag} {mg : Str → Option Value} {base : Heap}
abbrev s__law_dots : Stmt := topS 45
theorem sc__law_dots : FnScope ["value", "names", "size", "marks", "stamps", "k", "at"] ["value", "names", "size"] (defScope s__law_dots) := ⟨rfl, rfl, rfl, by decide +kernel, rfl, by decide +kernel, by decide +kernel⟩

def szD : List Int := (List.replicate 24 [30, 27]).flatten
theorem szD_ok : szD.length ≤ 1000 ∧ ∀ s ∈ szD, 0 < s ∧ s < 1000000 := by decide
theorem szD_at : ∀ i < 24, szD.getD (2 * i) 0 = 30 ∧ szD.getD (2 * i + 1) 0 = 27 := by decide
def dotsD (K : PySem.W.Frag) (z : Nat) (ns : List (List Nat)) : Dd := .P ⟨fun H y => ∃ L, PairsOk z L ∧ L.map (·.1) = ns ∧ Is K H (.L (stD L)) y, by
  rintro H H' y e ⟨L, h1, h2, h3⟩
  exact ⟨L, h1, h2, h3.mono e⟩⟩
structure NsOk (ns : List (List Nat)) : Prop where
  few : ns.length ≤ 24
  nd : ns.Nodup
  ok : ∀ n ∈ ns, nameOk n = true ∧ n.length ≤ 8
theorem stamp_sz {t : List Nat} {n : Nat} (h : stampOk t n = true) : t.length = n := by
  unfold stampOk at h
  simp only [Bool.and_eq_true, decide_eq_true_eq] at h
  omega
theorem dot_ok {z a c : Nat} (ha : a < z) (hc : c < alls.length) (z30 : z ≤ 30) : stampOk (List.replicate a 45 ++ [alls.getD c 0] ++ List.replicate (z - a - 1) 45) z = true := by
  have hm : alls.getD c 0 ∈ alls := mem_getD hc
  refine stamp_of ⟨by simp; omega, fun d hd => ?_, alls.getD c 0, by simp, alls_no _ hm⟩ (by omega) z30
  rw [List.mem_append, List.mem_append, List.mem_singleton] at hd
  rcases hd with (hd | rfl) | hd
  · exact .inl (List.eq_of_mem_replicate hd)
  · exact .inr hm
  · exact .inl (List.eq_of_mem_replicate hd)
abbrev sp__law_dots (K : PySem.W.Frag) : Sp := spR K (fun a : Int × List (List Nat) × Nat => NsOk a.2.1 ∧ 1 ≤ a.2.2 ∧ a.2.2 ≤ 30) (fun a => [.i a.1, .l (vsl a.2.1), .i (a.2.2 : Int)]) fun a => dotsD K a.2.2 a.2.1
theorem has__law_dots (T : Txt K mg) (h : At K mg "_law_dots" s__law_dots ["value", "names", "size"]) (C__law_digits : Has P w K mg base 1 "_law_digits" ["value", "sizes"] (sp__law_digits K)) : Has P w K mg base 2 "_law_dots" ["value", "names", "size"] (sp__law_dots K) := by
  refine h.hasR sc__law_dots (fun _ => rfl) fun f cdv A outer s H a vs Q E hr hp hv hk => ?_
  obtain ⟨x, ns, z⟩ := a
  obtain ⟨hN, z1, z30⟩ := hp
  replace hN : NsOk ns := hN
  replace z1 : 1 ≤ z := z1
  replace z30 : z ≤ 30 := z30
  have few := hN.few
  rcases hv with _ | ⟨rfl, _ | ⟨hn, _ | ⟨rfl, _ | _⟩⟩⟩
  rename_i vn
  replace hn : Is K H (.l (vsl ns)) vn := hn
  have sc := sc__law_dots
  have hml : (digM x szD).length = 48 := by rw [digM_len]; rfl
  have hmb : ∀ i, i < 48 → 0 ≤ (digM x szD).getD i 0 ∧ (digM x szD).getD i 0 < szD.getD i 0 := fun i hi => digM_bd (fun s hs => (szD_ok.2 s hs).1) hi
  refine ⟨_, (pss_cons (ps_set (i := 3) sc.nd rfl (Or.inl rfl) (pe_callH C__law_digits (hr.mono (by decide)) (pa_cons (pv 0) (pa_cons (pe_op op_rep (pe_lst (pa_cons pe_int (pa_cons pe_int pa_nil))) pe_int) pa_nil))))
    (pss_cons (ps_set (i := 4) sc.nd rfl (Or.inl rfl) (pe_lst pa_nil))
    (pss_cons (ps_for PassesOwn.never rfl (pi_range1 (by rfl) T.b_range (pa_cons (pe_callB (cr_len_k (K := K)) (by rfl) T.b_len (by decide +kernel) (pa_cons (pv 1) pa_nil)) pa_nil)) (pg_name (i := 5) sc.nd rfl (Or.inl rfl)) (pss_cons (ps_set (i := 6) sc.nd rfl (Or.inl rfl) (pe_op op_mod (pe_callTy cr_int (by rfl) T.b_int (by decide +kernel) (pa_cons (pe_ix (ix_list_k (K := K)) (pv 3) (pe_op op_mul pe_int (pv 5)) (fun _ _ => rfl)) pa_nil)) (pv 2)))
    (pss_one (ps_expr (pe_bm_k (K := K) PySem.F.plainAttrs_list PySem.F.slot_list_append PySem.F.type_list_append mt_append (pv 4) (pa_cons (pe_lst (pa_cons (pe_ix (ix_list_k (K := K)) (pv 1) (pv 5) (fun _ _ => rfl)) (pa_cons (pe_op op_addS (pe_op op_addS (pe_op op_mulS (pe_strS [45] (by rfl)) (pv 6)) (pe_ix ix_str (pe_strS [46, 97, 98, 99, 100, 101, 102, 103, 104, 105, 106, 107, 108, 109, 110, 111, 112, 113, 114, 115, 116, 117, 118, 119, 120, 121, 122] (by rfl)) (pe_ix (ix_list_k (K := K)) (pv 3) (pe_op op_add (pe_op op_mul pe_int (pv 5)) pe_int) (fun _ _ => rfl)) (fun _ _ => rfl))) (pe_op op_mulS (pe_strS [45] (by rfl)) (pe_op op_sub (pe_op op_sub (pv 2) (pv 6)) pe_int))) pa_nil))) pa_nil))))))
    (pss_one (ps_ret (pv 4)))))), ?_⟩
  refine a_asg (K := K) (d := .n (vis (digM x szD))) (er_call (K := K) (x, szD) (era_cons (er_v rfl) (era_cons (Er.n2l (Er.to (er_op (er_lst (vs := vis [30, 27]) (era_cons er_c (era_cons er_c era_nil)) (by decide)) er_c (ro_rep (k := 24) (by decide) (by decide))) (d' := .n (vis szD)) rfl)) era_nil)) rfl szD_ok) fun vm H1 e1 hm => ?_
  generalize digM x szD = mk at hml hmb hm
  have hn1 := hn.mono e1
  refine a_new fun o H2 ho1 e2 h2 => ?_
  refine b_for (K := K) (G := H1) (ds := (List.range ns.length).map fun i : Nat => Dd.i (i : Int)) (if_range (n := ns.length) (era_cons (er_cb (era_cons (er_var rfl hn1) era_nil) rc_lenLL) era_nil) (by omega)) e2 (fun i σ' G' A' => ∃ y5 y6 us L, σ' = [some (.int x), some vn, some (.int (z : Int)), some vm, some (.ref o), y5, y6] ∧ Ex H1 A' ∧ G' o = none ∧ A' o = some (.lst us) ∧ IsE K G' (stD L) us ∧ L.length = i ∧ L.map (·.1) = ns.take i ∧ ∀ p ∈ L, stampOk p.2 z = true) (fun G1 A1 s1 => ⟨none, none, [], [], rfl, e2.trans s1.a, s1.f o (by rw [h2]; simp) ho1, s1.a o _ h2, rfl, rfl, rfl, fun p hp => by cases hp⟩) ?_ ?_
  · rintro G1 eg i dd v σ' G' A' G2 A2 hdd ⟨y5, y6, us, L, rfl, ea, go, hu, hE, hl1, hl2, hl3⟩ e3' e4' s2 hv
    have hi : i < ns.length := by
      have := (List.getElem?_eq_some_iff.mp hdd).1
      simpa using this
    rw [List.getElem?_map, List.getElem?_range hi] at hdd
    obtain rfl := Option.some.inj hdd
    obtain rfl : v = V.int (i : Int) := hv
    have hi24 : i < 24 := by omega
    have go2 := s2.f o (by rw [hu]; simp) go
    have hu2 := s2.a o _ hu
    have eA2 : Ex H1 A2 := ea.trans s2.a
    have hE2 := IsE.mono s2.g hE
    have hm2 := hm.mono eA2
    have eG2 : Ex H1 G2 := (eg.trans e3').trans s2.g
    obtain ⟨q1, q2⟩ := szD_at i hi24
    obtain ⟨b1, b2⟩ := hmb (2 * i) (by omega)
    obtain ⟨c1, c2⟩ := hmb (2 * i + 1) (by omega)
    rw [q2] at c2
    obtain ⟨a, ha1, ha2⟩ : ∃ a : Nat, (a : Int) = mk.getD (2 * i) 0 % (z : Int) ∧ a < z := by
      obtain ⟨r1, r2⟩ := mod_nat (a := mk.getD (2 * i) 0) (n := z) (by omega)
      exact ⟨_, r1, r2⟩
    obtain ⟨c, hc1⟩ : ∃ c : Nat, mk.getD (2 * i + 1) 0 = (c : Int) := ⟨_, (Int.toNat_of_nonneg c1).symm⟩
    have hc2 : c < alls.length := by
      show c < 27
      omega
    have ix2 : ∀ {σ : L2.St} {H' : Hp}, σ[5]? = some (some (.int (i : Int))) → Er K (tOp (rI CMul fun i j => .int (i * j)) (tC (.int 2)) (tVar 5)) σ H' (.i ((2 * i : Nat) : Int)) := fun q => Er.to (er_op er_c (er_v q) (ro_mulL (by decide) (by decide))) (by rw [Int.natCast_mul]; rfl)
    refine a_setv (K := K) (x := .int (a : Int)) (Er.to (er_op (er_cb (era_cons (er_numN (n := 2 * i) (er_var rfl hm2) (ix2 rfl) (by omega)) era_nil) rc_int) (er_v rfl) (ro_mod (by omega : (0 : Int) < (z : Int)))) (congrArg Dd.i ha1.symm)) fun H3 e3 => ?_
    have hp1 : ns[i]? = some ns[i] := List.getElem?_eq_getElem hi
    obtain ⟨n, hnn⟩ : ∃ n, ns[i] = n := ⟨_, rfl⟩
    rw [hnn] at hp1
    have lal : alls.length = 27 := rfl
    refine s_app (K := K) (G := G2) (d := eD (n, List.replicate a 45 ++ [alls.getD c 0] ++ List.replicate (z - a - 1) 45)) (e3 o _ hu2) go2 (s2.v.trans e3) (er_v rfl) (Ef.as (ef_N (ds := [.s (S n), .s (S (List.replicate a 45 ++ [alls.getD c 0] ++ List.replicate (z - a - 1) 45))]) (efa_cons (ef_flat ?n1) (efa_cons (ef_flat ?n2) efa_nil)) (by simp)) fun _ _ z => z.N2L) (by rw [← isE_len hE, stD_len]; omega) fun w4 G4 A4 s4 z4 go4 hu4 => ?_
    case n1 => exact er_op (er_var rfl (hn1.mono eG2)) (er_v rfl) (ro_ixL (x := .str (S n)) (i := (i : Int)) (by omega) (by rw [Int.toNat_natCast]; unfold vsl; rw [List.getElem?_map, List.getElem?_map, hp1]; rfl))
    case n2 => exact Er.to (er_op (er_op (er_dash er_c (er_v rfl) (by omega)) (er_sign (l := alls) (n := c) er_c (Er.to (er_numN (n := 2 * i + 1) (er_var rfl (hm.mono eG2)) (er_op (ix2 rfl) er_c ro_I0) (by omega)) (congrArg Dd.i hc1)) hc2 (by omega)) (ro_addC (by simp; omega))) (er_dash er_c (Er.to (er_op (er_op (er_v rfl) (er_v rfl) ro_I0) er_c ro_I0) (congrArg Dd.i (show (z : Int) - (a : Int) - 1 = ((z - a - 1 : Nat) : Int) by omega))) (by omega)) (ro_addC (by simp; omega))) rfl
    refine ⟨G4, ⟨some (.int (i : Int)), some (.int (a : Int)), us ++ [w4], L ++ [(n, List.replicate a 45 ++ [alls.getD c 0] ++ List.replicate (z - a - 1) 45)], rfl, Ex.mut ((eA2.trans e3).trans s4.a) ho1, go4, upd_same, ?_, ?_, ?_, ?_⟩, (e3'.trans s2.g).trans s4.g, s4.v.mut go4⟩
    · rw [stD_eq, List.map_append]
      exact isE_app (IsE.mono s4.g hE2) ⟨w4, [], rfl, z4, rfl⟩
    · rw [List.length_append, hl1]
      rfl
    · rw [List.map_append, hl2, List.take_add_one, hp1]
      rfl
    · intro p hp
      rcases List.mem_append.mp hp with hp | hp
      · exact hl3 p hp
      · rw [List.mem_singleton.mp hp]
        exact dot_ok ha2 hc2 z30
  · rintro σ' G' A' eg ev ⟨y5, y6, us, L, rfl, ea, go, hu, hE, hl1, hl2, hl3⟩
    rw [List.length_map, List.length_range] at hl1 hl2
    rw [List.take_length] at hl2
    have hLL : Is K A' (.L (stD L)) (.ref o) := Is.N2L ⟨o, us, rfl, hu, IsE.mono ev hE⟩
    have nmM : ∀ p ∈ L, p.1 ∈ ns := fun p hp => by rw [← hl2]; exact List.mem_map.mpr ⟨p, hp, rfl⟩
    exact a_rete (K := K) (d := dotsD K z ns) (er_var rfl ⟨L, ⟨fun p hp => ⟨(hN.ok _ (nmM p hp)).1, by have := (hN.ok _ (nmM p hp)).2; omega⟩, fun p hp => ⟨hl3 p hp, by have := stamp_sz (hl3 p hp); omega⟩, by rw [hl2]; exact hN.nd, by omega⟩, hl2, hLL⟩) rfl (e1.trans ea) hk
end
end Mi

set_option maxHeartbeats 4000000
namespace Mi
open PySem PySem.Spec PyProof.Rows L2 Evl
local macro_rules | `(tactic| walk_at "side") => `(tactic| (first | assumption | omega | exact rfl | decide | (simp only [List.length_cons, List.length_nil, List.length_map, List.length_append, List.length_replicate] <;> omega)))
local macro_rules | `(tactic| walk_at "ro") => `(tactic| (first
  | with_reducible exact ro_I0
  | with_reducible exact ro_1018
  | with_reducible exact ro_neC
  | with_reducible exact ro_eqC
  | with_reducible exact ro_neI
  | with_reducible exact ro_eqI
  | with_reducible exact ro_neB
  | with_reducible exact ro_eqB
  | ((with_reducible apply ro_mod); (walk_at "side"))
  | ((with_reducible apply ro_div) <;> (walk_at "side"))
  | ((with_reducible apply ro_divW) <;> (walk_at "side"))
  | with_reducible exact ro_1012
  | with_reducible exact ro_1015
  | ((with_reducible apply ro_mulL) <;> (walk_at "side"))
  | ((with_reducible apply ro_mulR) <;> (walk_at "side"))
  | ((with_reducible apply ro_addC); (walk_at "side"))
  | ((with_reducible apply ro_ixC) <;> (walk_at "side"))
  | ((with_reducible apply ro_ixI) <;> (walk_at "side"))
  | ((with_reducible apply ro_ixIN) <;> (walk_at "side"))
  | ((with_reducible apply ro_ixT2) <;> (walk_at "side"))
  | ((with_reducible apply ro_ixG) <;> (walk_at "side"))
  | ((with_reducible apply ro_eq); exact rfl)
  | ((with_reducible apply ro_ne); exact rfl)
  | with_reducible exact ro_isN
  | with_reducible exact ro_notN
  | with_reducible exact ro_eqL
  | with_reducible exact ro_neL
  | with_reducible exact ro_eqU
  | ((with_reducible apply ro_cat); (walk_at "side"))
  | with_reducible exact ro_inLi
  | with_reducible exact ro_inNi
  | with_reducible exact ro_inUi
  | ((with_reducible apply ro_inL) <;> (walk_at "side"))
  | ((with_reducible apply ro_inN) <;> (walk_at "side"))
  | ((with_reducible apply ro_inU) <;> (walk_at "side"))))
local macro_rules | `(tactic| walk_at "rc") => `(tactic| (first
  | with_reducible exact rc_int
  | with_reducible exact rc_intB
  | with_reducible exact rc_max2
  | ((with_reducible apply rc_lenC); (walk_at "side"))
  | with_reducible exact rc_lenI
  | with_reducible exact rc_lenT
  | with_reducible exact rc_lenIN
  | with_reducible exact rc_lenTN
  | with_reducible exact rc_lenL
  | with_reducible exact rc_lenN
  | with_reducible exact rc_lenU
  | with_reducible exact rc_listL
  | with_reducible exact rc_listU
  | with_reducible exact rc_tupL
  | with_reducible exact rc_tupN
  | ((with_reducible apply rc_isi_int); decide +kernel)
  | ((with_reducible apply rc_isi_str); decide +kernel)
  | ((with_reducible apply rc_isi_bl); decide +kernel)
  | ((with_reducible apply rc_isi_non); decide +kernel)
  | ((with_reducible apply rc_isi_u); decide +kernel)
  | ((with_reducible apply rc_isi_l); decide +kernel)))
local macro_rules | `(tactic| walk_at "er") => `(tactic| (first
  | ((with_reducible apply er_var); (exact rfl); assumption)
  | ((with_reducible apply er_v); exact rfl)
  | with_reducible exact er_c
  | ((with_reducible apply er_pick); (walk_at "er"); (walk_at "er"); (walk_at "er"))
  | ((with_reducible apply er_op); (walk_at "er"); (walk_at "er"); (walk_at "ro"))
  | ((with_reducible apply er_cb); (walk_at "era"); (walk_at "rc"))
  | ((with_reducible apply er_lst'); (walk_at "era"); (exact rfl); (walk_at "side"))
  | ((with_reducible apply er_tup'); (walk_at "era"); (exact rfl); (walk_at "side"))
  | ((with_reducible apply er_notV); (walk_at "er"))
  | ((with_reducible apply er_andV); (walk_at "er"); (intro _; (walk_at "er")))
  | ((with_reducible apply er_orV); (walk_at "er"); (intro _; (walk_at "er")))
  | ((with_reducible apply er_ite); (walk_at "et"); (intro _; (walk_at "er")); (intro _; (walk_at "er")))))
local macro_rules | `(tactic| walk_at "era") => `(tactic| (first
  | with_reducible exact era_nil
  | ((with_reducible apply era_cons); (walk_at "er"); (walk_at "era"))))
local macro_rules | `(tactic| walk_at "et") => `(tactic| (first
  | ((with_reducible apply et_an); (walk_at "et"); (intro _; (walk_at "et")))
  | ((with_reducible apply et_orr); (walk_at "et"); (intro _; (walk_at "et")))
  | ((with_reducible apply et_nt); (walk_at "et"))
  | ((with_reducible apply et1); (walk_at "er"))
  | ((with_reducible apply et2); (walk_at "er"))))

section
variable {K : PySem.W.Frag} {σ : L2.St} {H : Hp} {t : TT} {b : Bool} {D : Ends} {tu tw tz : TS}
theorem a_ifP (Pm : L2.St → Hp → Prop) (h : Et K t σ H b) (hr : ∀ σ' H', Pm σ' H' → tz D σ' H') (h1 : (∀ σ' H', Pm σ' H' → tz D σ' H') → b = true → ∀ H1, Ex H H1 → tu { D with nx := tz D } σ H1) (h2 : (∀ σ' H', Pm σ' H' → tz D σ' H') → b = false → ∀ H1, Ex H H1 → tw { D with nx := tz D } σ H1) : tSeq (tIfS t tu tw) tz D σ H := a_if h (h1 hr) (h2 hr)
end
section
variable {P : Program} {w : World} {K : PySem.W.Frag} {mg : Str → Option Value} {base : Heap}
abbrev s__law_prices : Stmt := topS 37
theorem sc__law_prices : FnScope ["line", "many", "tags", "k", "pick", "price"] ["line", "many"] (defScope s__law_prices) := ⟨rfl, rfl, rfl, by decide +kernel, rfl, by decide +kernel, by decide +kernel⟩

def szP : List Int := [6, 1000] ++ (List.replicate 24 [12, 1000]).flatten
theorem szP_ok : szP.length ≤ 1000 ∧ ∀ s ∈ szP, 0 < s ∧ s < 1000000 := by decide
theorem szP_at : szP.getD 1 0 = 1000 ∧ ∀ i < 24, szP.getD (2 * i + 2) 0 = 12 ∧ szP.getD (2 * i + 3) 0 = 1000 := by decide
structure LnOk (ln : List Int) : Prop where
  len : ln.length = 50
  b1 : 0 ≤ ln.getD 1 0 ∧ ln.getD 1 0 < 1000
  bp : ∀ i < 24, 0 ≤ ln.getD (2 * i + 2) 0 ∧ 0 ≤ ln.getD (2 * i + 3) 0
def tagsD (K : PySem.W.Frag) (many : Nat) : Dd := .P ⟨fun H y => ∃ tg : List Int, tg.length = many ∧ (∀ t ∈ tg, 0 ≤ t) ∧ Is K H (.n (vis tg)) y, by
  rintro H H' y e ⟨tg, h1, h0, h2⟩
  exact ⟨tg, h1, h0, h2.mono e⟩⟩
abbrev sp__law_prices (K : PySem.W.Frag) : Sp := spR K (fun a : List Int × Nat => LnOk a.1 ∧ a.2 ≤ 24) (fun a => [.l (vis a.1), .i (a.2 : Int)]) fun a => tagsD K a.2
theorem has__law_prices (T : Txt K mg) (h : At K mg "_law_prices" s__law_prices ["line", "many"]) : Has P w K mg base 1 "_law_prices" ["line", "many"] (sp__law_prices K) := by
  refine h.hasR sc__law_prices (fun _ => rfl) fun f cdv A outer s H a vs Q E hr hp hv hk => ?_
  obtain ⟨ln, many⟩ := a
  obtain ⟨hL, hm⟩ := hp
  replace hL : LnOk ln := hL
  replace hm : many ≤ 24 := hm
  rcases hv with _ | ⟨hl, _ | ⟨rfl, _ | _⟩⟩
  rename_i vl
  replace hl : Is K H (.l (vis ln)) vl := hl
  have sc := sc__law_prices
  have len := hL.len
  refine ⟨_, (pss_cons (ps_set (i := 2) sc.nd rfl (Or.inl rfl) (pe_lst pa_nil))
    (pss_cons (ps_for PassesOwn.never rfl (pi_range1 (by rfl) T.b_range (pa_cons (pv 1) pa_nil)) (pg_name (i := 3) sc.nd rfl (Or.inl rfl)) (pss_cons (ps_set (i := 4) sc.nd rfl (Or.inl rfl) (pe_ix (ix_list_k (K := K)) (pv 0) (pe_op op_add pe_int (pe_op op_mul pe_int (pv 3))) (fun _ _ => rfl)))
    (pss_cons (ps_set (i := 5) sc.nd rfl (Or.inl rfl) (pe_ix (ix_list_k (K := K)) (pv 0) (pe_op op_add pe_int (pe_op op_mul pe_int (pv 3))) (fun _ _ => rfl)))
    (pss_cons (ps_if (pt_cmpR op_lt (pe_ix (ix_list_k (K := K)) (pv 0) pe_int (fun _ _ => rfl)) pe_int (nomark _)) (pss_one (ps_set (i := 5) sc.nd rfl (Or.inl rfl) (pe_op op_mod (pe_callTy cr_int (by rfl) T.b_int (by decide +kernel) (pa_cons (pv 5) pa_nil)) pe_int))) (pss_one (ps_if (PW.pt (pw_and (pt_cmpR op_lt (pe_ix (ix_list_k (K := K)) (pv 0) pe_int (fun _ _ => rfl)) pe_int (nomark _)) (pw_and1 (pt_cmpR op_lt (pv 4) pe_int (nomark _))))) (pss_one (ps_set (i := 5) sc.nd rfl (Or.inl rfl) (pe_ix (ix_list_k (K := K)) (pe_lst (pa_cons pe_int (pa_cons pe_int (pa_cons pe_int (pa_cons pe_int (pa_cons pe_int (pa_cons pe_int (pa_cons (pe_ix (ix_list_k (K := K)) (pv 0) pe_int (fun _ _ => rfl)) pa_nil)))))))) (pv 4) (fun _ _ => rfl)))) (pss_one (ps_if (pt_cmpR op_eq (pe_ix (ix_list_k (K := K)) (pv 0) pe_int (fun _ _ => rfl)) pe_int (nomark _)) (pss_one (ps_set (i := 5) sc.nd rfl (Or.inl rfl) (pe_ix (ix_list_k (K := K)) (pv 0) pe_int (fun _ _ => rfl)))) (pss_one (ps_if (pt_cmpR op_eq (pe_ix (ix_list_k (K := K)) (pv 0) pe_int (fun _ _ => rfl)) pe_int (nomark _)) (pss_one (ps_set (i := 5) sc.nd rfl (Or.inl rfl) (pe_op op_mul (pe_ix (ix_list_k (K := K)) (pv 0) pe_int (fun _ _ => rfl)) (pe_callTy cr_int (by rfl) T.b_int (by decide +kernel) (pa_cons (pe_cmpR op_lt (pv 4) pe_int (nomark _)) pa_nil))))) pss_nil)))))))
    (pss_one (ps_expr (pe_bm_k (K := K) PySem.F.plainAttrs_list PySem.F.slot_list_append PySem.F.type_list_append mt_append (pv 2) (pa_cons (pv 5) pa_nil))))))))
    (pss_one (ps_ret (pv 2))))), ?_⟩
  refine a_new fun o H1 ho e1 h1 => ?_
  refine b_forR1 (K := K) (n := many) (era_cons (er_v rfl) era_nil) (by omega) (fun i σ' H' => ∃ y3 y4 y5 tg, σ' = [some vl, some (.int (many : Int)), some (.ref o), y3, y4, y5] ∧ Ex H H' ∧ tg.length = i ∧ (∀ t ∈ tg, 0 ≤ t) ∧ H' o = some (.lst (vis tg))) (fun H2 e2 => ⟨none, none, none, [], rfl, e1.trans e2, rfl, fun t (h : t ∈ ([] : List Int)) => by simp at h, e2 o _ h1⟩) ?_ ?_
  · rintro i σ' H' hi ⟨y3, y4, y5, tg, rfl, e, ht, hpos, hO⟩
    have hl' := hl.mono e
    have ix2 : ∀ {σ : L2.St} {H' : Hp} {j : Nat}, σ[3]? = some (some (.int (i : Int))) → Er K (tOp (rI0 fun i j => .int (i + j)) (tC (.int (j : Int))) (tOp (rI CMul fun i j => .int (i * j)) (tC (.int 2)) (tVar 3))) σ H' (.i ((2 * i + j : Nat) : Int)) := fun {σ H' j} q => Er.to (er_op er_c (er_op er_c (er_v q) (ro_mulL (by decide) (by decide))) ro_I0) (congrArg Dd.i (show (j : Int) + 2 * (i : Int) = ((2 * i + j : Nat) : Int) by omega))
    obtain ⟨pk0, p00⟩ := hL.bp i (by omega)
    obtain ⟨pk, hpk⟩ : ∃ pk : Nat, ln.getD (2 * i + 2) 0 = (pk : Int) := ⟨_, (Int.toNat_of_nonneg pk0).symm⟩
    obtain ⟨l1, hl1⟩ : ∃ l1, ln.getD 1 0 = l1 := ⟨_, rfl⟩
    have b1 := hL.b1
    rw [hl1] at b1
    refine a_setv (K := K) (x := .int (pk : Int)) (Er.to (er_num (n := 2 * i + 2) (er_var rfl hl') (ix2 (j := 2) rfl) (by omega)) (congrArg Dd.i hpk)) fun H2 e2 => ?_
    refine a_setv (K := K) (x := .int (ln.getD (2 * i + 3) 0)) (er_num (n := 2 * i + 3) (er_var rfl (hl'.mono e2)) (ix2 (j := 3) rfl) (by omega)) fun H3 e3 => ?_
    generalize ln.getD (2 * i + 3) 0 = p0 at p00
    have E3 := e2.trans e3
    have at0 : ∀ {σ : L2.St} {H4 : Hp} {j : Nat}, Ex H3 H4 → σ[0]? = some (some vl) → j < 50 → Er K (tOp (rIxL K) (tVar 0) (tC (.int (j : Int)))) σ H4 (.i (ln.getD j 0)) := fun {σ H4 j} e4 q hj => er_num (er_var q (hl'.mono (E3.trans e4))) er_c (by omega)
    have pos7 : pk < 7 → 0 ≤ ([0, 0, 0, 1, 2, 999, l1] : List Int).getD pk 0 := fun h => by
      have : pk = 0 ∨ pk = 1 ∨ pk = 2 ∨ pk = 3 ∨ pk = 4 ∨ pk = 5 ∨ pk = 6 := by omega
      rcases this with rfl | rfl | rfl | rfl | rfl | rfl | rfl <;> simp <;> omega
    refine a_ifP (K := K) (fun σ2 H2 => ∃ p, σ2 = [some vl, some (.int (many : Int)), some (.ref o), some (.int (i : Int)), some (.int (pk : Int)), some (.int p)] ∧ Ex H3 H2 ∧ 0 ≤ p) (b := decide (ln.getD 0 0 < 2)) (et1 (er_op (at0 (j := 0) (Ex.refl _) rfl (by decide)) er_c ro_I0)) ?r1 (fun hr2 hb H4 e4 => ?r2) (fun hr2 hb H4 e4 => ?r3)
    case r2 =>
      refine a_setv1 (K := K) (x := .int (p0 % 4)) (er_op (er_cb (era_cons (er_v rfl) era_nil) rc_int) er_c (ro_mod (by decide))) fun H5 e5 => ?_
      exact hr2 _ _ ⟨_, rfl, e4.trans e5, Int.emod_nonneg _ (by decide)⟩
    case r3 =>
      refine a_if1 (K := K) (b := decide (ln.getD 0 0 < 4) && decide ((pk : Int) < 7)) (et_an (et1 (er_op (at0 (j := 0) e4 rfl (by decide)) er_c ro_I0)) fun _ => et1 (er_op (er_v rfl) er_c ro_I0)) (fun hb2 H5 e5 => ?_) (fun hb2 H5 e5 => ?_)
      · have hb7 : (pk : Int) < 7 := by
          rw [Bool.and_eq_true] at hb2
          exact of_decide_eq_true hb2.2
        refine a_setv1 (K := K) (x := .int (([0, 0, 0, 1, 2, 999, l1] : List Int).getD pk 0)) (er_numN (ns := [0, 0, 0, 1, 2, 999, l1]) (n := pk) (er_lst (vs := vis [0, 0, 0, 1, 2, 999, l1]) (era_cons er_c (era_cons er_c (era_cons er_c (era_cons er_c (era_cons er_c (era_cons er_c (era_cons (Er.to (at0 (j := 1) (e4.trans e5) rfl (by decide)) (congrArg Dd.i hl1)) era_nil))))))) (by simp)) (er_v rfl) (by show pk < 7; omega)) fun H6 e6 => ?_
        exact hr2 _ _ ⟨_, rfl, e4.trans (e5.trans e6), pos7 (by omega)⟩
      · refine a_if1 (K := K) (b := decide (ln.getD 0 0 = 4)) (et1 (er_op (at0 (j := 0) (e4.trans e5) rfl (by decide)) er_c ro_eqI)) (fun hb3 H6 e6 => ?_) (fun hb3 H6 e6 => ?_)
        · refine a_setv1 (K := K) (x := .int l1) (Er.to (at0 (j := 1) (e4.trans (e5.trans e6)) rfl (by decide)) (congrArg Dd.i hl1)) fun H7 e7 => ?_
          exact hr2 _ _ ⟨_, rfl, e4.trans (e5.trans (e6.trans e7)), b1.1⟩
        · refine a_when1 (K := K) (b := decide (ln.getD 0 0 = 5)) (et1 (er_op (at0 (j := 0) (e4.trans (e5.trans e6)) rfl (by decide)) er_c ro_eqI)) (fun hb4 H7 e7 => ?_) (fun hb4 H7 e7 => ?_)
          · refine a_setv1 (K := K) (x := .int (l1 * (if decide ((pk : Int) < 6) = true then 1 else 0))) (er_op (Er.to (at0 (j := 1) (e4.trans (e5.trans (e6.trans e7))) rfl (by decide)) (congrArg Dd.i hl1)) (er_cb (era_cons (er_op (er_v rfl) er_c ro_I0) era_nil) rc_intB) (ro_mulL (by omega) (by omega))) fun H8 e8 => ?_
            exact hr2 _ _ ⟨_, rfl, e4.trans (e5.trans (e6.trans (e7.trans e8))), by split <;> omega⟩
          · exact hr2 _ _ ⟨p0, rfl, e4.trans (e5.trans (e6.trans e7)), p00⟩
    case r1 =>
      rintro σ2 H4 ⟨p, rfl, e4, hp0⟩
      refine a_app (K := K) (xs := vis tg) ((E3.trans e4) o _ hO) (er_v rfl) (er_v (x := .int p) rfl) (by rw [List.length_map]; omega) fun H5 e5 => ?_
      refine ⟨some (.int (i : Int)), some (.int (pk : Int)), some (.int p), tg ++ [p], rfl, Ex.mut ((e.trans E3).trans (e4.trans e5)) ho, by rw [List.length_append, ht]; rfl, fun t h => ?_, ?_⟩
      · rcases List.mem_append.mp h with h | h
        · exact hpos t h
        · rw [List.mem_singleton.mp h]
          exact hp0
      · rw [upd_same, vis_app]
  · rintro σ' H' ⟨y3, y4, y5, tg, rfl, e, ht, hpos, hO⟩
    exact a_rete (K := K) (d := tagsD K many) (er_var rfl ⟨tg, ht, hpos, o, rfl, hO⟩) rfl e hk
end
end Mi

set_option maxHeartbeats 4000000
namespace Mi
open PySem PySem.Spec PyProof.Rows L2 Evl
open PyProof.Rows in
section
def upT (t : List Nat) : List Nat := (Txt.upper (S t)).cps.toList
theorem nameSign_lt {c : Nat} (h : nameSign c = true) : c < 128 := by
  unfold nameSign at h
  rcases (Bool.or_eq_true _ _).mp h with q | q
  · have : ∀ c ∈ letters, c < 128 := by decide
    exact this c (of_decide_eq_true q)
  · have : ∀ c ∈ digits, c < 128 := by decide
    exact this c (of_decide_eq_true q)
theorem name_parts {n : List Nat} (h : nameOk n = true) : 1 ≤ n.length ∧ n.length ≤ 8 ∧ n.getD 0 0 ∈ letters ∧ ∀ c ∈ n, nameSign c = true := by
  unfold nameOk at h
  simp only [Bool.and_eq_true, decide_eq_true_eq, List.all_eq_true] at h
  exact ⟨h.1.1, h.1.2, h.2.1, h.2.2⟩
theorem upT_name {n : List Nat} (h : nameOk n = true) : upT n = n.map PyProof.Rows.up1 := by
  obtain ⟨_, _, _, hs⟩ := name_parts h
  unfold upT
  rw [PyProof.Rows.upper_ascii (x := S n) (fun c hc => nameSign_lt (hs c (by simpa [S] using hc)))]
  simp [S]
theorem up_no : ∀ c ∈ letters, PyProof.Rows.up1 c ∉ letters := by decide
end
local macro_rules | `(tactic| walk_at "side") => `(tactic| (first | assumption | omega | exact rfl | decide | (simp only [List.length_cons, List.length_nil, List.length_map, List.length_append, List.length_replicate] <;> omega)))
local macro_rules | `(tactic| walk_at "ro") => `(tactic| (first
  | with_reducible exact ro_I0
  | with_reducible exact ro_1018
  | with_reducible exact ro_neC
  | with_reducible exact ro_eqC
  | with_reducible exact ro_neI
  | with_reducible exact ro_eqI
  | with_reducible exact ro_neB
  | with_reducible exact ro_eqB
  | ((with_reducible apply ro_mod); (walk_at "side"))
  | ((with_reducible apply ro_div) <;> (walk_at "side"))
  | ((with_reducible apply ro_divW) <;> (walk_at "side"))
  | with_reducible exact ro_1012
  | with_reducible exact ro_1015
  | ((with_reducible apply ro_mulL) <;> (walk_at "side"))
  | ((with_reducible apply ro_mulR) <;> (walk_at "side"))
  | ((with_reducible apply ro_addC); (walk_at "side"))
  | ((with_reducible apply ro_ixC) <;> (walk_at "side"))
  | ((with_reducible apply ro_ixI) <;> (walk_at "side"))
  | ((with_reducible apply ro_ixIN) <;> (walk_at "side"))
  | ((with_reducible apply ro_ixT2) <;> (walk_at "side"))
  | ((with_reducible apply ro_ixG) <;> (walk_at "side"))
  | ((with_reducible apply ro_eq); exact rfl)
  | ((with_reducible apply ro_ne); exact rfl)
  | with_reducible exact ro_isN
  | with_reducible exact ro_notN
  | with_reducible exact ro_eqL
  | with_reducible exact ro_neL
  | with_reducible exact ro_eqU
  | ((with_reducible apply ro_cat); (walk_at "side"))
  | with_reducible exact ro_inLi
  | with_reducible exact ro_inNi
  | with_reducible exact ro_inUi
  | ((with_reducible apply ro_inL) <;> (walk_at "side"))
  | ((with_reducible apply ro_inN) <;> (walk_at "side"))
  | ((with_reducible apply ro_inU) <;> (walk_at "side"))))
local macro_rules | `(tactic| walk_at "rc") => `(tactic| (first
  | with_reducible exact rc_int
  | with_reducible exact rc_intB
  | with_reducible exact rc_max2
  | ((with_reducible apply rc_lenC); (walk_at "side"))
  | with_reducible exact rc_lenI
  | with_reducible exact rc_lenT
  | with_reducible exact rc_lenIN
  | with_reducible exact rc_lenTN
  | with_reducible exact rc_lenL
  | with_reducible exact rc_lenN
  | with_reducible exact rc_lenU
  | with_reducible exact rc_listL
  | with_reducible exact rc_listU
  | with_reducible exact rc_tupL
  | with_reducible exact rc_tupN
  | ((with_reducible apply rc_isi_int); decide +kernel)
  | ((with_reducible apply rc_isi_str); decide +kernel)
  | ((with_reducible apply rc_isi_bl); decide +kernel)
  | ((with_reducible apply rc_isi_non); decide +kernel)
  | ((with_reducible apply rc_isi_u); decide +kernel)
  | ((with_reducible apply rc_isi_l); decide +kernel)))
local macro_rules | `(tactic| walk_at "er") => `(tactic| (first
  | ((with_reducible apply er_var); (exact rfl); assumption)
  | ((with_reducible apply er_v); exact rfl)
  | with_reducible exact er_c
  | ((with_reducible apply er_pick); (walk_at "er"); (walk_at "er"); (walk_at "er"))
  | ((with_reducible apply er_op); (walk_at "er"); (walk_at "er"); (walk_at "ro"))
  | ((with_reducible apply er_cb); (walk_at "era"); (walk_at "rc"))
  | ((with_reducible apply er_lst'); (walk_at "era"); (exact rfl); (walk_at "side"))
  | ((with_reducible apply er_tup'); (walk_at "era"); (exact rfl); (walk_at "side"))
  | ((with_reducible apply er_notV); (walk_at "er"))
  | ((with_reducible apply er_andV); (walk_at "er"); (intro _; (walk_at "er")))
  | ((with_reducible apply er_orV); (walk_at "er"); (intro _; (walk_at "er")))
  | ((with_reducible apply er_ite); (walk_at "et"); (intro _; (walk_at "er")); (intro _; (walk_at "er")))))
local macro_rules | `(tactic| walk_at "era") => `(tactic| (first
  | with_reducible exact era_nil
  | ((with_reducible apply era_cons); (walk_at "er"); (walk_at "era"))))
local macro_rules | `(tactic| walk_at "et") => `(tactic| (first
  | ((with_reducible apply et_an); (walk_at "et"); (intro _; (walk_at "et")))
  | ((with_reducible apply et_orr); (walk_at "et"); (intro _; (walk_at "et")))
  | ((with_reducible apply et_nt); (walk_at "et"))
  | ((with_reducible apply et1); (walk_at "er"))
  | ((with_reducible apply et2); (walk_at "er"))))

section
variable {P : Program} {w : World} {K : PySem.W.Frag} {mg : Str → Option Value} {base : Heap}
theorem er_upper {σ : L2.St} {H : Hp} {to : TE} {t : List Nat} (h : Er K to σ H (.s (S t))) (hz : t.length ≤ 1000) : Er K (tM0 (fun x xs H Q => ∃ a, x = V.str a ∧ xs = [] ∧ a.length ≤ 5592405 ∧ Q (V.str (Txt.upper a)) H) to) σ H (.s (S (upT t))) := fun H1 e Q q =>
  h H1 e _ fun v H2 e2 z => by
    obtain rfl : v = V.str (S t) := z
    exact ⟨⟨_, rfl⟩, _, rfl, rfl, by rw [S_len]; omega, q _ H2 e2 rfl⟩
def base7 : List (List Nat) := [[], [32], [78], [48], [45], [120, 32, 121], [10]]
def strM (some further : List (List Nat)) : List (List Nat) := further ++ base7 ++ some.map (fun n => n ++ [32]) ++ some.map (fun n => [32] ++ n) ++ some.map upT ++ some.map (fun n => n ++ [97, 97, 97, 97, 97, 97, 97, 97])
theorem strM_len {some further : List (List Nat)} : (strM some further).length = further.length + 7 + 4 * some.length := by
  unfold strM
  simp [base7]
  omega
theorem strM_no {some further : List (List Nat)} (h1 : ∀ n ∈ some, nameOk n = true) {s : List Nat} (hs : s ∈ strM some further) : s ∈ further ∨ nameOk s = false := by
  unfold strM at hs
  simp only [List.mem_append, List.mem_map] at hs
  rcases hs with ((((hs | hs) | ⟨n, hn, rfl⟩) | ⟨n, hn, rfl⟩) | ⟨n, hn, rfl⟩) | ⟨n, hn, rfl⟩
  · exact .inl hs
  · right
    revert s
    decide
  · right
    have : ¬ nameOk (n ++ [32]) = true := fun q => by
      have := (name_parts q).2.2.2 32 (by simp)
      revert this
      decide
    simpa using this
  · right
    have : ¬ nameOk ([32] ++ n) = true := fun q => by
      have := (name_parts q).2.2.2 32 (by simp)
      revert this
      decide
    simpa using this
  · right
    obtain ⟨l1, _, hf, _⟩ := name_parts (h1 n hn)
    rw [upT_name (h1 n hn)]
    have : ¬ nameOk (n.map PyProof.Rows.up1) = true := fun q => by
      have := (name_parts q).2.2.1
      cases n with
      | nil => simp at l1
      | cons c r => exact up_no c hf this
    simpa using this
  · right
    obtain ⟨l1, _, _, _⟩ := name_parts (h1 n hn)
    have : ¬ nameOk (n ++ [97, 97, 97, 97, 97, 97, 97, 97]) = true := fun q => by
      have := (name_parts q).2.1
      rw [List.length_append] at this
      have e : ([97, 97, 97, 97, 97, 97, 97, 97] : List Nat).length = 8 := rfl
      omega
    simpa using this
abbrev s__law_strange : Stmt := topS 39
theorem sc__law_strange : FnScope ["some", "further", "near", "name"] ["some", "further"] (defScope s__law_strange) := ⟨rfl, rfl, rfl, by decide +kernel, rfl, by decide +kernel, by decide +kernel⟩

abbrev sp__law_strange (K : PySem.W.Frag) : Sp := spR K (fun a : List (List Nat) × List (List Nat) => (a.1.length ≤ 100 ∧ a.2.length ≤ 100) ∧ ∀ n ∈ a.1, nameOk n = true) (fun a => [.l (vsl a.1), .n (vsl a.2)]) fun a => .n (vsl (strM a.1 a.2))
theorem vsl_one {L : List (List Nat)} {g : List Nat → List Nat} : ((L.filter fun _ => true).map fun n => V.str (S (g n))) = vsl (L.map g) := by
  rw [filt_true]
  simp only [vsl, vss, List.map_map]
  rfl
theorem vsl_cat {a b : List (List Nat)} : vsl (a ++ b) = vsl a ++ vsl b := by
  simp [vsl, vss]
theorem has__law_strange (T : Txt K mg) (h : At K mg "_law_strange" s__law_strange ["some", "further"]) : Has P w K mg base 1 "_law_strange" ["some", "further"] (sp__law_strange K) := by
  refine h.hasR sc__law_strange (fun _ => rfl) fun f cdv A outer s H a vs Q E hr hp hv hk => ?_
  obtain ⟨so, fu⟩ := a
  obtain ⟨⟨l1, l2⟩, hok⟩ := hp
  replace l1 : so.length ≤ 100 := l1
  replace l2 : fu.length ≤ 100 := l2
  replace hok : ∀ n ∈ so, nameOk n = true := hok
  rcases hv with _ | ⟨hs, _ | ⟨hf, _ | _⟩⟩
  rename_i v1 v2
  replace hs : Is K H (.l (vsl so)) v1 := hs
  replace hf : Is K H (.n (vsl fu)) v2 := hf
  have hs2 : Is K H (.l (so.map fun n => V.str (S n))) v1 := is_cast hs (by simp [vsl, vss, Function.comp_def])
  have l8 : ∀ {i : Nat} {n : List Nat}, so[i]? = some n → n.length ≤ 8 := fun h => (name_parts (hok _ (List.mem_of_getElem? h))).2.1
  have lv : ∀ L : List (List Nat), (vsl L).length = L.length := fun L => by simp [vsl, vss]
  have sc := sc__law_strange
  refine ⟨_, (pss_cons (ps_set (i := 2) sc.nd rfl (Or.inl rfl) (pe_op op_cat (pe_op op_cat (pe_op op_cat (pv 1) (pe_lst (pa_cons (pe_strS [] (by rfl)) (pa_cons (pe_strS [32] (by rfl)) (pa_cons (pe_strS [78] (by rfl)) (pa_cons (pe_strS [48] (by rfl)) (pa_cons (pe_strS [45] (by rfl)) (pa_cons (pe_strS [120, 32, 121] (by rfl)) (pa_cons (pe_strS [10] (by rfl)) pa_nil))))))))) (pe_lc (own := [("name", 3)]) (g := gName 3) (by rfl) sc.nd (pi_list_k (K := K) (pv 0)) (blkOk_by (N := ["some", "further", "near", "name"]) (sc := defScope s__law_strange) (own := [("name", 3)]) (by decide +kernel)) (fun _ _ _ _ _ => (pg_name (i := 3) sc.nd rfl (Or.inl rfl))) (fun _ _ _ _ _ => pts_nil) (fun _ _ _ _ _ => (pe_op op_addS (pv 3) (pe_strS [32] (by rfl)))))) (pe_lc (own := [("name", 3)]) (g := gName 3) (by rfl) sc.nd (pi_list_k (K := K) (pv 0)) (blkOk_by (N := ["some", "further", "near", "name"]) (sc := defScope s__law_strange) (own := [("name", 3)]) (by decide +kernel)) (fun _ _ _ _ _ => (pg_name (i := 3) sc.nd rfl (Or.inl rfl))) (fun _ _ _ _ _ => pts_nil) (fun _ _ _ _ _ => (pe_op op_addS (pe_strS [32] (by rfl)) (pv 3))))))
    (pss_one (ps_ret (pe_op op_cat (pe_op op_cat (pv 2) (pe_lc (own := [("name", 3)]) (g := gName 3) (by rfl) sc.nd (pi_list_k (K := K) (pv 0)) (blkOk_by (N := ["some", "further", "near", "name"]) (sc := defScope s__law_strange) (own := [("name", 3)]) (by decide +kernel)) (fun _ _ _ _ _ => (pg_name (i := 3) sc.nd rfl (Or.inl rfl))) (fun _ _ _ _ _ => pts_nil) (fun _ _ _ _ _ => (L2.pe_upper (pv 3))))) (pe_lc (own := [("name", 3)]) (g := gName 3) (by rfl) sc.nd (pi_list_k (K := K) (pv 0)) (blkOk_by (N := ["some", "further", "near", "name"]) (sc := defScope s__law_strange) (own := [("name", 3)]) (by decide +kernel)) (fun _ _ _ _ _ => (pg_name (i := 3) sc.nd rfl (Or.inl rfl))) (fun _ _ _ _ _ => pts_nil) (fun _ _ _ _ _ => (pe_op op_addS (pv 3) (pe_strS [97, 97, 97, 97, 97, 97, 97, 97] (by rfl))))))))), ?_⟩
  refine a_asg (K := K) (d := .n (vsl (fu ++ base7 ++ so.map (fun n => n ++ [32]) ++ so.map (fun n => [32] ++ n)))) (Er.to (er_op (er_op (er_op (d1 := .n (vsl fu)) (d2 := .n (vsl base7)) (er_var rfl hf) (er_lst (vs := vsl base7) (era_cons er_c (era_cons er_c (era_cons er_c (era_cons er_c (era_cons er_c (era_cons er_c (era_cons er_c era_nil))))))) (by decide)) (ro_cat (by rw [lv, lv]; show fu.length + 7 ≤ _; omega))) (Er.to (er_lcL (K := K) (its := so) (inj := fun n => V.str (S n)) (vs := [3]) (fun _ => true) (fun n => V.str (S (n ++ [32]))) (er_var rfl hs2) (by omega) (fun _ => rfl) (fun i x H1 e1 hx H2 e Q q => q H2 (Ex.refl _)) (fun i x H1 e1 hx _ => er_op (er_v rfl) er_c (ro_addC (by have := l8 hx; simp; omega)))) (congrArg Dd.n vsl_one)) (ro_cat (by rw [List.length_append, lv, lv, lv, List.length_map]; show fu.length + 7 + _ ≤ _; omega))) (Er.to (er_lcL (K := K) (its := so) (inj := fun n => V.str (S n)) (vs := [3]) (fun _ => true) (fun n => V.str (S ([32] ++ n))) ?_ (by omega) (fun _ => rfl) (fun i x H1 e1 hx H2 e Q q => q H2 (Ex.refl _)) (fun i x H1 e1 hx _ => er_op er_c (er_v rfl) (ro_addC (by have := l8 hx; simp; omega)))) (congrArg Dd.n vsl_one)) (ro_cat (by rw [List.length_append, List.length_append, lv, lv, lv, lv, List.length_map, List.length_map]; show fu.length + 7 + _ + _ ≤ _; omega))) (by rw [vsl_cat, vsl_cat, vsl_cat])) fun vn H1 e1 hn => ?_
  · exact er_var rfl hs2
  have ln : (vsl (fu ++ base7 ++ so.map (fun n => n ++ [32]) ++ so.map (fun n => [32] ++ n))).length ≤ 400 := by
    rw [lv]
    simp [base7]
    omega
  have hz : ∀ g : List Nat → List Nat, (vsl (so.map g)).length ≤ 100 := fun g => by rw [lv, List.length_map]; exact l1
  refine a_rete (K := K) (d := .n (vsl (strM so fu))) (Er.to (er_op (er_op (er_var rfl hn) (Er.to (er_lcL (K := K) (its := so) (inj := fun n => V.str (S n)) (vs := [3]) (fun _ => true) (fun n => V.str (S (upT n))) (er_var rfl (hs2.mono e1)) (by omega) (fun _ => rfl) (fun i x H1 e1 hx H2 e Q q => q H2 (Ex.refl _)) (fun i x H1 e1 hx _ => er_upper (er_v rfl) (by have := l8 hx; omega))) (congrArg Dd.n vsl_one)) (ro_cat (Nat.le_trans (Nat.add_le_add ln (hz _)) (by decide)))) (Er.to (er_lcL (K := K) (its := so) (inj := fun n => V.str (S n)) (vs := [3]) (fun _ => true) (fun n => V.str (S (n ++ [97, 97, 97, 97, 97, 97, 97, 97]))) ?_ (by omega) (fun _ => rfl) (fun i x H1 e1 hx H2 e Q q => q H2 (Ex.refl _)) (fun i x H1 e1 hx _ => er_op (er_v rfl) er_c (ro_addC (by have := l8 hx; simp; omega)))) (congrArg Dd.n vsl_one)) (ro_cat (by rw [List.length_append]; exact Nat.le_trans (Nat.add_le_add (Nat.add_le_add ln (hz _)) (hz _)) (by decide)))) (by unfold strM; rw [vsl_cat (b := so.map (fun n => n ++ [97, 97, 97, 97, 97, 97, 97, 97])), vsl_cat (b := so.map upT)])) rfl e1 hk
  exact er_var rfl (hs2.mono e1)
end
end Mi

set_option maxHeartbeats 4000000
namespace Mi
open PySem PySem.Spec PyProof.Rows L2 Evl
local macro_rules | `(tactic| walk_at "side") => `(tactic| (first | assumption | omega | exact rfl | decide | (simp only [List.length_cons, List.length_nil, List.length_map, List.length_append, List.length_replicate] <;> omega)))
local macro_rules | `(tactic| walk_at "ro") => `(tactic| (first
  | with_reducible exact ro_I0
  | with_reducible exact ro_1018
  | with_reducible exact ro_neC
  | with_reducible exact ro_eqC
  | with_reducible exact ro_neI
  | with_reducible exact ro_eqI
  | with_reducible exact ro_neB
  | with_reducible exact ro_eqB
  | ((with_reducible apply ro_mod); (walk_at "side"))
  | ((with_reducible apply ro_div) <;> (walk_at "side"))
  | ((with_reducible apply ro_divW) <;> (walk_at "side"))
  | with_reducible exact ro_1012
  | with_reducible exact ro_1015
  | ((with_reducible apply ro_mulL) <;> (walk_at "side"))
  | ((with_reducible apply ro_mulR) <;> (walk_at "side"))
  | ((with_reducible apply ro_addC); (walk_at "side"))
  | ((with_reducible apply ro_ixC) <;> (walk_at "side"))
  | ((with_reducible apply ro_ixI) <;> (walk_at "side"))
  | ((with_reducible apply ro_ixIN) <;> (walk_at "side"))
  | ((with_reducible apply ro_ixT2) <;> (walk_at "side"))
  | ((with_reducible apply ro_ixG) <;> (walk_at "side"))
  | ((with_reducible apply ro_eq); exact rfl)
  | ((with_reducible apply ro_ne); exact rfl)
  | with_reducible exact ro_isN
  | with_reducible exact ro_notN
  | with_reducible exact ro_eqL
  | with_reducible exact ro_neL
  | with_reducible exact ro_eqU
  | ((with_reducible apply ro_cat); (walk_at "side"))
  | with_reducible exact ro_inLi
  | with_reducible exact ro_inNi
  | with_reducible exact ro_inUi
  | ((with_reducible apply ro_inL) <;> (walk_at "side"))
  | ((with_reducible apply ro_inN) <;> (walk_at "side"))
  | ((with_reducible apply ro_inU) <;> (walk_at "side"))))
local macro_rules | `(tactic| walk_at "rc") => `(tactic| (first
  | with_reducible exact rc_int
  | with_reducible exact rc_intB
  | with_reducible exact rc_max2
  | ((with_reducible apply rc_lenC); (walk_at "side"))
  | with_reducible exact rc_lenI
  | with_reducible exact rc_lenT
  | with_reducible exact rc_lenIN
  | with_reducible exact rc_lenTN
  | with_reducible exact rc_lenL
  | with_reducible exact rc_lenN
  | with_reducible exact rc_lenU
  | with_reducible exact rc_listL
  | with_reducible exact rc_listU
  | with_reducible exact rc_tupL
  | with_reducible exact rc_tupN
  | ((with_reducible apply rc_isi_int); decide +kernel)
  | ((with_reducible apply rc_isi_str); decide +kernel)
  | ((with_reducible apply rc_isi_bl); decide +kernel)
  | ((with_reducible apply rc_isi_non); decide +kernel)
  | ((with_reducible apply rc_isi_u); decide +kernel)
  | ((with_reducible apply rc_isi_l); decide +kernel)))
local macro_rules | `(tactic| walk_at "er") => `(tactic| (first
  | ((with_reducible apply er_var); (exact rfl); assumption)
  | ((with_reducible apply er_v); exact rfl)
  | with_reducible exact er_c
  | ((with_reducible apply er_pick); (walk_at "er"); (walk_at "er"); (walk_at "er"))
  | ((with_reducible apply er_op); (walk_at "er"); (walk_at "er"); (walk_at "ro"))
  | ((with_reducible apply er_cb); (walk_at "era"); (walk_at "rc"))
  | ((with_reducible apply er_lst'); (walk_at "era"); (exact rfl); (walk_at "side"))
  | ((with_reducible apply er_tup'); (walk_at "era"); (exact rfl); (walk_at "side"))
  | ((with_reducible apply er_notV); (walk_at "er"))
  | ((with_reducible apply er_andV); (walk_at "er"); (intro _; (walk_at "er")))
  | ((with_reducible apply er_orV); (walk_at "er"); (intro _; (walk_at "er")))
  | ((with_reducible apply er_ite); (walk_at "et"); (intro _; (walk_at "er")); (intro _; (walk_at "er")))))
local macro_rules | `(tactic| walk_at "era") => `(tactic| (first
  | with_reducible exact era_nil
  | ((with_reducible apply era_cons); (walk_at "er"); (walk_at "era"))))
local macro_rules | `(tactic| walk_at "et") => `(tactic| (first
  | ((with_reducible apply et_an); (walk_at "et"); (intro _; (walk_at "et")))
  | ((with_reducible apply et_orr); (walk_at "et"); (intro _; (walk_at "et")))
  | ((with_reducible apply et_nt); (walk_at "et"))
  | ((with_reducible apply et1); (walk_at "er"))
  | ((with_reducible apply et2); (walk_at "er"))))

section
variable {P : Program} {w : World} {K : PySem.W.Frag} {mg : Str → Option Value} {base : Heap}
abbrev s__law_ascending : Stmt := topS 41
theorem sc__law_ascending : FnScope ["names", "tags", "told", "last", "name", "at"] ["names", "tags", "told"] (defScope s__law_ascending) := ⟨rfl, rfl, rfl, by decide +kernel, rfl, by decide +kernel, by decide +kernel⟩

abbrev tgK (ns : List (List Nat)) (tg : List Int) (n : List Nat) : Int := tg.getD (plK ns n) 0
structure AscOk (ns : List (List Nat)) (tg : List Int) (told : List (List Nat)) : Prop where
  few : ns.length ≤ 1000
  tl : tg.length = ns.length
  tp : ∀ t ∈ tg, 0 ≤ t
  l : told.length = ns.length
  m : ∀ n ∈ told, n ∈ ns
  asc : ∀ i m n, told[i]? = some m → told[i + 1]? = some n → leB (tgK ns tg n) (plK ns n) (tgK ns tg m) (plK ns m) = false
abbrev sp__law_ascending (K : PySem.W.Frag) : Sp := spR K (fun a : List (List Nat) × List Int × List (List Nat) => AscOk a.1 a.2.1 a.2.2) (fun a => [.l (vsl a.1), .l (vis a.2.1), .u (vsl a.2.2)]) fun _ => .b true
theorem has__law_ascending (T : Txt K mg) (h : At K mg "_law_ascending" s__law_ascending ["names", "tags", "told"]) (C__law_place : Has P w K mg base 1 "_law_place" ["names", "name"] (sp__law_place K)) : Has P w K mg base 2 "_law_ascending" ["names", "tags", "told"] (sp__law_ascending K) := by
  refine h.hasR sc__law_ascending (fun _ => rfl) fun f cdv A outer s H a vs Q E hr hp hv hk => ?_
  obtain ⟨ns, tg, told⟩ := a
  replace hp : AscOk ns tg told := hp
  have few := hp.few
  have tl := hp.tl
  rcases hv with _ | ⟨hn, _ | ⟨ht, _ | ⟨ho, _ | _⟩⟩⟩
  rename_i vn vt vo
  replace hn : Is K H (.l (vsl ns)) vn := hn
  replace ht : Is K H (.l (vis tg)) vt := ht
  replace ho : Is K H (.u (vsl told)) vo := ho
  have sc := sc__law_ascending
  have lv : ∀ L : List (List Nat), (vsl L).length = L.length := fun L => by simp [vsl, vss]
  refine ⟨_, (pss_cons (ps_if (PW.pt (pw_or (pt_not (pt_val (pe_callB (cr_isi_k (K := K)) (by rfl) T.b_isinstance (by decide +kernel) (pa_cons (pv 2) (pa_cons (pe_bltn (v := .ty "tuple") (by rfl) T.b_tuple (by decide +kernel) rfl) pa_nil))))) (pw_or1 (pt_cmpR op_ne (pe_callB (cr_len_k (K := K)) (by rfl) T.b_len (by decide +kernel) (pa_cons (pv 2) pa_nil)) (pe_callB (cr_len_k (K := K)) (by rfl) T.b_len (by decide +kernel) (pa_cons (pv 0) pa_nil)) (nomark _))))) (pss_one (ps_ret pe_bl)) pss_nil)
    (pss_cons (ps_set (i := 3) sc.nd rfl (Or.inl rfl) (pe_tup (pa_cons (pe_un un_neg pe_int) (pa_cons (pe_un un_neg pe_int) pa_nil))))
    (pss_cons (ps_for PassesOwn.never rfl (pi_tup_k (K := K) (pv 2)) (pg_name (i := 4) sc.nd rfl (Or.inl rfl)) (pss_cons (ps_set (i := 5) sc.nd rfl (Or.inl rfl) (pe_callH C__law_place (hr.mono (by decide)) (pa_cons (pv 0) (pa_cons (pv 4) pa_nil))))
    (pss_cons (ps_if (PW.pt (pw_or (pt_not (pt_val (pe_callB (cr_isi_k (K := K)) (by rfl) T.b_isinstance (by decide +kernel) (pa_cons (pv 4) (pa_cons (pe_bltn (v := .ty "str") (by rfl) T.b_str (by decide +kernel) rfl) pa_nil))))) (pw_or1 (pt_cmpR op_isN1 (pv 5) pe_non (nomark _))))) (pss_one (ps_ret pe_bl)) pss_nil)
    (pss_cons (ps_if (pt_cmpR (op_leT_k (K := K) hr.units2) (pe_tup (pa_cons (pe_ix (ix_list_k (K := K)) (pv 1) (pv 5) (fun _ _ => rfl)) (pa_cons (pv 5) pa_nil))) (pv 3) (nomark _)) (pss_one (ps_ret pe_bl)) pss_nil)
    (pss_one (ps_set (i := 3) sc.nd rfl (Or.inl rfl) (pe_tup (pa_cons (pe_ix (ix_list_k (K := K)) (pv 1) (pv 5) (fun _ _ => rfl)) (pa_cons (pv 5) pa_nil)))))))))
    (pss_one (ps_ret pe_bl))))), ?_⟩
  refine a_when (K := K) (b := !true || !decide ((told.length : Int) = (ns.length : Int))) (et_orr (et_nt (et2 (er_cb (era_cons (er_var rfl ho) (era_cons er_c era_nil)) (rc_isi_u (b := true) (by decide +kernel))))) fun _ => et1 (er_op (Er.to (er_cb (era_cons (er_var rfl ho) era_nil) rc_lenU) (congrArg Dd.i (by rw [lv]))) (er_cb (era_cons (er_var rfl hn) era_nil) rc_lenLL) ro_neI)) (fun hb => absurd hb (by rw [hp.l]; simp)) fun _ H1 e1 => ?_
  refine a_asg (K := K) (d := .u (vis [-1, -1])) (er_tup (vs := vis [-1, -1]) (era_cons (er_neg er_c) (era_cons (er_neg er_c) era_nil)) (by decide)) fun v0 H2 e2 h0 => ?_
  have E2 := e1.trans e2
  refine b_forT (K := K) (xs := vsl told) (er_var rfl (ho.mono E2)) (fun i σ' H' => ∃ la lb vl y4 y5, σ' = [some vn, some vt, some vo, some vl, y4, y5] ∧ Ex H H' ∧ Is K H' (.u (vis [la, lb])) vl ∧ ∀ n, told[i]? = some n → leB (tgK ns tg n) (plK ns n) la lb = false) (fun H3 e3 => ⟨-1, -1, v0, none, none, rfl, E2.trans e3, h0.mono e3, fun n h => ?_⟩) ?_ ?_
  · obtain ⟨_, p2, _⟩ := pl_in (hp.m n (List.mem_of_getElem? h))
    have : 0 ≤ tgK ns tg n := hp.tp _ (mem_getD (by omega))
    unfold leB
    rw [if_neg (by omega)]
    exact decide_eq_false (by omega)
  · rintro H3 e3 i x σ' H' hx ⟨la, lb, vl, y4, y5, rfl, e, hvl, hasc⟩ e4
    obtain ⟨n, hni, rfl⟩ := vsl_at hx
    obtain ⟨p1, p2, _⟩ := pl_in (hp.m n (List.mem_of_getElem? hni))
    refine a_setv (K := K) (x := .int (plK ns n : Int)) (Er.to (er_call (ns, n) (era_cons (er_var rfl (hn.mono e)) (era_cons (er_v rfl) era_nil)) rfl few) (by show Dd.v (idxV (plN ns n)) = _; rw [p1]; rfl)) fun H4 e5 => ?_
    refine a_when (K := K) (b := !true || decide (V.int (plK ns n : Int) = V.non)) (et_orr (et_nt (et2 (er_cb (era_cons (er_v rfl) (era_cons er_c era_nil)) (rc_isi_str (b := true) (by decide +kernel))))) fun _ => et1 (er_op (er_v rfl) er_c ro_isN)) (fun hb => absurd hb (by simp)) fun _ H5 e6 => ?_
    have E5 := e5.trans e6
    have tup : ∀ {σ : L2.St} {H6 : Hp}, Ex H5 H6 → σ[1]? = some (some vt) → σ[5]? = some (some (.int (plK ns n : Int))) → Er K (tTup (tCons (tOp (rIxL K) (tVar 1) (tVar 5)) (tCons (tVar 5) tNil))) σ H6 (.u (vis [tgK ns tg n, (plK ns n : Int)])) := fun e7 q1 q5 => er_tup (vs := vis [tgK ns tg n, (plK ns n : Int)]) (era_cons (er_num (n := plK ns n) (er_var q1 (ht.mono (e.trans (E5.trans e7)))) (er_v q5) (by omega)) (era_cons (er_v q5) era_nil)) (by simp)
    refine a_when (K := K) (b := leB (tgK ns tg n) (plK ns n) la lb) (et1 (er_op (tup (Ex.refl _) rfl rfl) (er_var rfl (hvl.mono E5)) ro_leT2)) (fun hb => absurd hb (by rw [hasc n hni]; decide)) fun _ H6 e7 => ?_
    refine a_asg1 (K := K) (d := .u (vis [tgK ns tg n, (plK ns n : Int)])) (tup e7 rfl rfl) fun v6 H7 e8 h6 => ?_
    refine ⟨⟨_, _, v6, some (.str (S n)), some (.int (plK ns n : Int)), rfl, e.trans (E5.trans (e7.trans e8)), h6, fun m hm => hp.asc i n m hni hm⟩, e4.trans (E5.trans (e7.trans e8))⟩
  · rintro σ' H' e3 ⟨la, lb, vl, y4, y5, rfl, e, _, _⟩
    exact a_rete (K := K) er_c rfl e hk
end
end Mi

set_option maxHeartbeats 4000000
namespace Mi
open PySem PySem.Spec PyProof.Rows L2 Evl
local macro_rules | `(tactic| walk_at "side") => `(tactic| (first | assumption | omega | exact rfl | decide | (simp only [List.length_cons, List.length_nil, List.length_map, List.length_append, List.length_replicate] <;> omega)))
local macro_rules | `(tactic| walk_at "ro") => `(tactic| (first
  | with_reducible exact ro_I0
  | with_reducible exact ro_1018
  | with_reducible exact ro_neC
  | with_reducible exact ro_eqC
  | with_reducible exact ro_neI
  | with_reducible exact ro_eqI
  | with_reducible exact ro_neB
  | with_reducible exact ro_eqB
  | ((with_reducible apply ro_mod); (walk_at "side"))
  | ((with_reducible apply ro_div) <;> (walk_at "side"))
  | ((with_reducible apply ro_divW) <;> (walk_at "side"))
  | with_reducible exact ro_1012
  | with_reducible exact ro_1015
  | ((with_reducible apply ro_mulL) <;> (walk_at "side"))
  | ((with_reducible apply ro_mulR) <;> (walk_at "side"))
  | ((with_reducible apply ro_addC); (walk_at "side"))
  | ((with_reducible apply ro_ixC) <;> (walk_at "side"))
  | ((with_reducible apply ro_ixI) <;> (walk_at "side"))
  | ((with_reducible apply ro_ixIN) <;> (walk_at "side"))
  | ((with_reducible apply ro_ixT2) <;> (walk_at "side"))
  | ((with_reducible apply ro_ixG) <;> (walk_at "side"))
  | ((with_reducible apply ro_eq); exact rfl)
  | ((with_reducible apply ro_ne); exact rfl)
  | with_reducible exact ro_isN
  | with_reducible exact ro_notN
  | with_reducible exact ro_eqL
  | with_reducible exact ro_neL
  | with_reducible exact ro_eqU
  | ((with_reducible apply ro_cat); (walk_at "side"))
  | with_reducible exact ro_inLi
  | with_reducible exact ro_inNi
  | with_reducible exact ro_inUi
  | ((with_reducible apply ro_inL) <;> (walk_at "side"))
  | ((with_reducible apply ro_inN) <;> (walk_at "side"))
  | ((with_reducible apply ro_inU) <;> (walk_at "side"))))
local macro_rules | `(tactic| walk_at "rc") => `(tactic| (first
  | with_reducible exact rc_int
  | with_reducible exact rc_intB
  | with_reducible exact rc_max2
  | ((with_reducible apply rc_lenC); (walk_at "side"))
  | with_reducible exact rc_lenI
  | with_reducible exact rc_lenT
  | with_reducible exact rc_lenIN
  | with_reducible exact rc_lenTN
  | with_reducible exact rc_lenL
  | with_reducible exact rc_lenN
  | with_reducible exact rc_lenU
  | with_reducible exact rc_listL
  | with_reducible exact rc_listU
  | with_reducible exact rc_tupL
  | with_reducible exact rc_tupN
  | ((with_reducible apply rc_isi_int); decide +kernel)
  | ((with_reducible apply rc_isi_str); decide +kernel)
  | ((with_reducible apply rc_isi_bl); decide +kernel)
  | ((with_reducible apply rc_isi_non); decide +kernel)
  | ((with_reducible apply rc_isi_u); decide +kernel)
  | ((with_reducible apply rc_isi_l); decide +kernel)))
local macro_rules | `(tactic| walk_at "er") => `(tactic| (first
  | ((with_reducible apply er_var); (exact rfl); assumption)
  | ((with_reducible apply er_v); exact rfl)
  | with_reducible exact er_c
  | ((with_reducible apply er_pick); (walk_at "er"); (walk_at "er"); (walk_at "er"))
  | ((with_reducible apply er_op); (walk_at "er"); (walk_at "er"); (walk_at "ro"))
  | ((with_reducible apply er_cb); (walk_at "era"); (walk_at "rc"))
  | ((with_reducible apply er_lst'); (walk_at "era"); (exact rfl); (walk_at "side"))
  | ((with_reducible apply er_tup'); (walk_at "era"); (exact rfl); (walk_at "side"))
  | ((with_reducible apply er_notV); (walk_at "er"))
  | ((with_reducible apply er_andV); (walk_at "er"); (intro _; (walk_at "er")))
  | ((with_reducible apply er_orV); (walk_at "er"); (intro _; (walk_at "er")))
  | ((with_reducible apply er_ite); (walk_at "et"); (intro _; (walk_at "er")); (intro _; (walk_at "er")))))
local macro_rules | `(tactic| walk_at "era") => `(tactic| (first
  | with_reducible exact era_nil
  | ((with_reducible apply era_cons); (walk_at "er"); (walk_at "era"))))
local macro_rules | `(tactic| walk_at "et") => `(tactic| (first
  | ((with_reducible apply et_an); (walk_at "et"); (intro _; (walk_at "et")))
  | ((with_reducible apply et_orr); (walk_at "et"); (intro _; (walk_at "et")))
  | ((with_reducible apply et_nt); (walk_at "et"))
  | ((with_reducible apply et1); (walk_at "er"))
  | ((with_reducible apply et2); (walk_at "er"))))

section
variable {K : PySem.W.Frag} {σ : L2.St} {G H : Hp} {te tl : TE} {tr : TA}
/-! ### prices, and the dict of them -/
abbrev tgD (b : Bool) (tg : List Int) : Dd := match b with
  | true => .u (vis tg)
  | false => .l (vis tg)
abbrev kvP (ns : List (List Nat)) (tg : List Int) : List (Key × V) := ((ns.map S).map fun k => (Sum.inr k : Key)).zip (vis tg)
theorem rc_lenP {b : Bool} {tg : List Int} : Rc K (rLenS K) [tgD b tg] (.i (tg.length : Int)) := by
  have e : (vis tg).length = tg.length := List.length_map _
  cases b
  · exact fun vs H1 h Q q => rc_lenL vs H1 h Q (by rw [e]; exact q)
  · exact fun vs H1 h Q q => rc_lenU vs H1 h Q (by rw [e]; exact q)
theorem tgD_sq {b : Bool} {tg : List Int} {v : V} (h : Is K H (tgD b tg) v) : ∃ p, v = .ref p ∧ SqE K H p (vis tg) := by
  cases b
  · obtain ⟨p, rfl, hp⟩ := h
    exact ⟨p, rfl, .inl hp⟩
  · obtain ⟨p, rfl, hp⟩ := h
    exact ⟨p, rfl, .inr hp⟩
theorem rc_dictZ {b : Bool} {ns : List (List Nat)} {tg : List Int} (hn : ns.Nodup) (hl : tg.length = ns.length) : Rc K (rDictZ K) [.u (vsl ns), tgD b tg] (dicD (kvP ns tg)) := by
  intro vs H1 h Q q
  rcases h with _ | ⟨⟨p, rfl, hp⟩, _ | ⟨h2, _ | _⟩⟩
  obtain ⟨p2, rfl, hp2⟩ := tgD_sq h2
  refine ⟨p, p2, ns.map S, vis tg, rfl, .inr hp, hp2, by simp [hl], List.pairwise_map.mpr (hn.imp fun h e => h (S_inj e)), fun l hl => q _ _ (Ex.new hl) ⟨l, rfl, upd_same⟩⟩
theorem price_at {ns : List (List Nat)} {tg : List Int} {m : List Nat} (hn : ns.Nodup) (hl : tg.length = ns.length) (hm : m ∈ ns) : valV (kvP ns tg) (Sum.inr (S m)) = some (.int (tgK ns tg m)) := by
  obtain ⟨_, p2, p3⟩ := pl_in hm
  have e : tg[plK ns m]? = some (tgK ns tg m) := by
    rw [tgK, List.getD_eq_getElem?_getD, List.getElem?_eq_getElem (by omega)]
    rfl
  refine valV_zip (i := plK ns m) (List.pairwise_map.mpr (hn.imp fun h e => h (S_inj e))) (by rw [List.getElem?_map, p3]; rfl) (by rw [vis, List.getElem?_map, e]; rfl)
theorem sum_map {ns : List (List Nat)} {tg : List Int} (r : List (List Nat)) : (r.map (tgK ns tg)).sum = sumM ns tg r := by
  unfold sumM
  have : ∀ (r : List (List Nat)) (z : Int), r.foldl (fun t n => t + tg.getD (plK ns n) 0) z = z + (r.map (tgK ns tg)).sum := by
    intro r
    induction r with
    | nil => intro z; simp
    | cons a r ih =>
      intro z
      rw [List.foldl_cons, ih, List.map_cons, List.sum_cons]
      show z + tgK ns tg a + _ = _
      omega
  rw [this]
  omega
end
section
variable {P : Program} {w : World} {K : PySem.W.Frag} {mg : Str → Option Value} {base : Heap}
/-! ### len(stock) -/
abbrev s_Stock___len__ : Stmt := inClass (topS 27) 2
theorem sc_Stock___len__ : FnScope ["self"] ["self"] (defScope s_Stock___len__) := ⟨rfl, rfl, rfl, by decide +kernel, rfl, by decide +kernel, by decide +kernel⟩

abbrev sp_len (K : PySem.W.Frag) (C : Addr) : Sp := spR K (fun a : Nat × List (List Nat × List Nat) => a.2.length ≤ 1000) (fun a => [stockC K C (a.1 : Int) a.2]) fun a => .i (a.2.length : Int)
theorem ok_len {f C : Addr} {fd : FuncData} (F : Fun K "__len__" "Stock.__len__" s_Stock___len__ f fd) (T : Txt K mg) (TS : StTxt K mg C) : FnOk P w K mg base CX0 1 f fd ["self"] (sp_len K C) := by
  have sc := sc_Stock___len__
  refine F.ok sc (fun vs H Q E h => ?_) (fun cdv A outer s H vs Q E hr h => ?_)
  · obtain ⟨a, _, hv, _⟩ := h
    rcases hv with _ | ⟨_, _ | _⟩
    rfl
  obtain ⟨⟨n, sts⟩, hp, hv, hk⟩ := h
  rcases hv with _ | ⟨hx, _ | _⟩
  rename_i x
  replace hx : Is K H (stockC K C (n : Int) sts) x := hx
  refine ⟨_, (pss_one (ps_ret (pe_callB (cr_len_k (K := K)) (by rfl) T.b_len (by decide +kernel) (pa_cons (pe_fld (pv 0) rfl) pa_nil)))), ?_⟩
  refine a_rete (K := K) (Er.to (er_cb (era_cons (Ef.er (ef_stamps TS.cl TS.nT (Ef.as (ef_var (i := 0) rfl hx) fun Hx v z => stockC_D z))) era_nil) rc_lenUd) (congrArg Dd.i (by rw [prD, List.length_map]))) rfl (Ex.refl H) hk
theorem rc_lenO {C : Addr} {n : Nat} {sts : List (List Nat × List Nat)} (h : sts.length ≤ 1000) : Rc K (rLenO C (sp_len K C)) [stockC K C (n : Int) sts] (.i (sts.length : Int)) := by
  intro vs H1 hv Q q
  rcases hv with _ | ⟨hx, _ | _⟩
  have hx' := hx
  obtain ⟨x, dx, ps, dd, rfl, h1, h2, h3⟩ := hx
  refine ⟨x, dx, _, rfl, h1, (n, sts), h, .cons hx' .nil, fun v H' e z => ?_⟩
  obtain rfl : v = V.int (sts.length : Int) := z
  exact ⟨_, rfl, ⟨by omega, by omega⟩, q _ H' e rfl⟩
/-! ### BadPrices -/
structure BpTxt (K : PySem.W.Frag) (mg : Str → Option Value) (CB CS CU CC : Addr) : Prop where
  gP : mg "BadPrices" = some (.ref CB)
  gS : mg "StampError" = some (.ref CS)
  gU : mg "UnknownName" = some (.ref CU)
  gC : mg "BadChances" = some (.ref CC)
  bV : mg "ValueError" = none
  bD : mg "dict" = none
  xP : PySem.W.excIn K CB [.type "ValueError", .type "Exception", .type "BaseException", .type "object"] "ValueError.__new__" = true
  kP : PySem.W.keepIn K (.ref CB) = true
  ra : PySem.W.subIn K (.ref CB) (.type "BaseException") = some true
  ta : PySem.W.typeIn K (.ref CB) = some (.type "type")
  ex : ExcC K CB
  ems : PySem.W.exmOne K (.ref CB) (.ref CS) = some true
  kP1 : PySem.W.kitOne K (.ref CB) (.ref CB) = some true
  kV : PySem.W.kitOne K (.ref CB) (.type "ValueError") = some true
  kUC : PySem.W.kitAny K (.ref CB) [.ref CU, .ref CC] = some false
  uP : PySem.W.kitOne K (.ref CU) (.ref CB) = some false
  uS : PySem.W.kitOne K (.ref CU) (.ref CS) = some true
abbrev s_prices_by_name : Stmt := topS 29
theorem sc_prices_by_name : FnScope ["stock", "prices"] ["stock", "prices"] (defScope s_prices_by_name) := ⟨rfl, rfl, rfl, by decide +kernel, rfl, by decide +kernel, by decide +kernel⟩

abbrev PrB := (Nat × List (List Nat × List Nat)) × Bool × List Int
structure StN (sts : List (List Nat × List Nat)) : Prop where
  nd : (nmV sts).Nodup
  few : sts.length ≤ 1000
theorem StN.nl {sts : List (List Nat × List Nat)} : (nmV sts).length = sts.length := by rw [nmV, List.length_map]
abbrev bpEr (CB : Addr) (cls : Value) (d : Option Addr) (H : Hp) : Prop := cls = .ref CB ∧ d = none
abbrev spX_pb (K : PySem.W.Frag) (C CB : Addr) : Sp := spX K (fun a : PrB => StN a.1.2) (fun a => [stockC K C (a.1.1 : Int) a.1.2, tgD a.2.1 a.2.2]) (fun a => decide (a.2.2.length = a.1.2.length)) (fun a => dicD (kvP (nmV a.1.2) a.2.2)) (fun _ => bpEr CB)
theorem fn_prices_by_name {C CB CS CU CC fL p fN f : Addr} {fdL fdN fd : FuncData} (T : Txt K mg) (TS : StTxt K mg C) (TB : BpTxt K mg CB CS CU CC) (F : Fun K "prices_by_name" "prices_by_name" s_prices_by_name f fd) (hiL : PySem.W.findIn K (.ref C) "__len__" = some (some (.ref fL))) (hfL : PySem.W.isFn K (.ref fL) = true) (FL : FnOk P w K mg base CX0 1 fL fdL ["self"] (sp_len K C)) (bL : Binds K fdL ["self"] []) (P_names : PropOf K C "names" p fN) (F_names : FnOk P w K mg base CX0 1 fN fdN ["self"] (sp_names K C)) (b_names : Binds K fdN ["self"] []) : FnOk P w K mg base (L2N.CX P w) 3 f fd ["stock", "prices"] (spX_pb K C CB) := by
  refine Fun.okXs F sc_prices_by_name (fun _ => rfl) fun cdv A outer s H a vs Q E hr hp hv hk hx => ?_
  obtain ⟨⟨n, sts⟩, b, tg⟩ := a
  replace hp : StN sts := hp
  rcases hv with _ | ⟨hs, _ | ⟨hy, _ | _⟩⟩
  rename_i x y
  replace hs : Is K H (stockC K C (n : Int) sts) x := hs
  replace hy : Is K H (tgD b tg) y := hy
  have few := hp.few
  have sc := sc_prices_by_name
  refine ⟨_, (pss_cons (ps_if (pt_cmpR op_ne (pe_callB (cr_len_k (K := K)) (by rfl) T.b_len (by decide +kernel) (pa_cons (pv 1) pa_nil)) (pe_callB (cr_lenO hiL hfL FL bL (hr.mono (by decide))) (by rfl) T.b_len (by decide +kernel) (pa_cons (pv 0) pa_nil)) (nomark _)) (pss_one (L2N.ps_raise rfl (L2N.takes_of rfl rfl rfl rfl) (pmk_own0 PySem.F.excBase_ValueError TB.xP TB.gP TB.kP (raises_own TB.ra TB.ta) rfl))) pss_nil)
    (pss_one (ps_ret (pe_dictZ (by rfl) TB.bD (by rfl) T.b_zip (pa_cons (pe_prop (pv 0) TS.cl P_names F_names (hr.mono (by decide)) b_names .nil pass0 rfl) (pa_cons (pv 1) pa_nil)))))), ?_⟩
  refine a_when (K := K) (b := !decide ((tg.length : Int) = (sts.length : Int))) (et1 (er_op (er_cb (era_cons (er_var (i := 1) rfl hy) era_nil) rc_lenP) (er_cb (era_cons (er_var (i := 0) rfl hs) era_nil) (rc_lenO few)) ro_neI)) (fun hb H1 e1 => ?_) fun hb H1 e1 => ?_
  · have hno : decide (tg.length = sts.length) = false := by
      simp only [Bool.not_eq_true', decide_eq_false_iff_not] at hb
      exact decide_eq_false (by omega)
    exact hx hno _ _ _ e1 ⟨rfl, rfl⟩
  · have hyes : tg.length = sts.length := by
      simp only [Bool.not_eq_false', decide_eq_true_eq] at hb
      omega
    exact a_rete (K := K) (er_cb (era_cons (Er.as (er_names (er_var (i := 0) rfl (hs.mono e1)) few) fun _ _ z => Is.U2u (is_cast z (by rw [← tsD_vsl]))) (era_cons (er_var (i := 1) rfl (hy.mono e1)) era_nil)) (rc_dictZ hp.nd (by rw [StN.nl]; exact hyes))) rfl e1 (hk (decide_eq_true hyes))
end
end Mi

set_option maxHeartbeats 4000000
namespace Mi
open PySem PySem.Spec PyProof.Rows L2 Evl
/-! ### the order of the names by their prices -/
section
open PySem.W
abbrev kdI (f : List Nat → Int) : List Nat → PyData := fun n => .int (f n)
theorem le_I {f : List Nat → Int} {a b : List Nat} : dataLe false (kdI f) a b = decide (f a ≤ f b) := by
  have e : dataLe false (kdI f) a b = !dataLt (.int (f b)) (.int (f a)) := rfl
  rw [e, dataLt_int]
  by_cases h : f b < f a
  · rw [decide_eq_true h, decide_eq_false (by omega)]
    rfl
  · rw [decide_eq_false h, decide_eq_true (by omega)]
    rfl
theorem kdI_ok (f : List Nat → Int) (ys : List (List Nat)) : KeysOk (kdI f) ys := by
  refine ⟨PySem.W.AllAlike.of fun a b => DatumOrd.alike (f a) (f b), .inl (.inr fun d hd => ?_), fun y _ => by simp [kdI, PyData.depth]⟩
  obtain ⟨y, _, rfl⟩ := List.mem_map.mp hd
  exact ⟨fun e => (by cases e), fun xs e => (by cases e)⟩
theorem pair_sub {α : Type} {l : List α} {i j : Nat} {a b : α} (hij : i < j) (ha : l[i]? = some a) (hb : l[j]? = some b) : [a, b].Sublist l := by
  obtain ⟨h1, h2⟩ := List.getElem?_eq_some_iff.mp ha
  obtain ⟨h3, h4⟩ := List.getElem?_eq_some_iff.mp hb
  have e : l.drop i = a :: l.drop (i + 1) := by rw [List.drop_eq_getElem_cons h1, h2]
  have hm : b ∈ l.drop (i + 1) := by
    refine List.mem_of_getElem? (i := j - (i + 1)) ?_
    rw [List.getElem?_drop, show i + 1 + (j - (i + 1)) = j by omega]
    exact hb
  have s : [a, b].Sublist (l.drop i) := by
    rw [e]
    exact (List.singleton_sublist.mpr hm).cons_cons a
  exact s.trans (List.drop_sublist _ _)
theorem sub_not {α : Type} {l : List α} (hn : l.Nodup) {i : Nat} {a b : α} (ha : l[i]? = some a) (hb : l[i + 1]? = some b) : ¬ [b, a].Sublist l := by
  intro h
  obtain ⟨h1, h2⟩ := List.getElem?_eq_some_iff.mp ha
  obtain ⟨h3, h4⟩ := List.getElem?_eq_some_iff.mp hb
  have hp : l.Pairwise fun x y => ∀ j k : Nat, l[j]? = some x → l[k]? = some y → j < k := by
    rw [List.pairwise_iff_getElem]
    intro p q hp hq hpq j k hj hk
    obtain ⟨j1, j2⟩ := List.getElem?_eq_some_iff.mp hj
    obtain ⟨k1, k2⟩ := List.getElem?_eq_some_iff.mp hk
    have ej : j = p := by
      rcases Nat.lt_trichotomy j p with q1 | q1 | q1
      · exact absurd j2 (List.pairwise_iff_getElem.mp hn j p j1 hp q1)
      · exact q1
      · exact absurd j2.symm (List.pairwise_iff_getElem.mp hn p j hp j1 q1)
    have ek : k = q := by
      rcases Nat.lt_trichotomy k q with q1 | q1 | q1
      · exact absurd k2 (List.pairwise_iff_getElem.mp hn k q k1 hq q1)
      · exact q1
      · exact absurd k2.symm (List.pairwise_iff_getElem.mp hn q k hq k1 q1)
    omega
  have := (List.pairwise_cons.mp (hp.sublist h)).1 a (by simp) (i + 1) i hb ha
  omega
abbrev ordP (ns : List (List Nat)) (tg : List Int) : List (List Nat) := ordk false (kdI (tgK ns tg)) ns
theorem ordP_mem {ns : List (List Nat)} {tg : List Int} {n : List Nat} : n ∈ ordP ns tg ↔ n ∈ ns := List.mem_mergeSort
theorem ordP_len {ns : List (List Nat)} {tg : List Int} : (ordP ns tg).length = ns.length := List.length_mergeSort _
theorem ordP_asc {ns : List (List Nat)} {tg : List Int} (hn : ns.Nodup) (few : ns.length ≤ 1000) (hl : tg.length = ns.length) (hp : ∀ t ∈ tg, 0 ≤ t) : AscOk ns tg (ordP ns tg) := by
  refine ⟨few, hl, hp, ordP_len, fun n h => ordP_mem.mp h, fun i m n hm hn2 => ?_⟩
  have T := sortLe_total (listOrd itemOrd) false fun b : List Nat => keyToks (kdI (tgK ns tg) b)
  have tot : ∀ a b, (dataLe false (kdI (tgK ns tg)) a b || dataLe false (kdI (tgK ns tg)) b a) = true := fun a b => by
    rw [le_I, le_I]
    by_cases h : tgK ns tg a ≤ tgK ns tg b
    · rw [decide_eq_true h]
      rfl
    · rw [decide_eq_true (show tgK ns tg b ≤ tgK ns tg a by omega), Bool.or_true]
  have nd : (ordP ns tg).Nodup := (List.mergeSort_perm _ _).symm.nodup hn
  have pw : (ordP ns tg).Pairwise fun a b => dataLe false (kdI (tgK ns tg)) a b = true := List.pairwise_mergeSort (le := dataLe false (kdI (tgK ns tg))) T.trans tot _
  have hmn := (List.pairwise_cons.mp (pw.sublist (pair_sub (Nat.lt_succ_self i) hm hn2))).1 n (by simp)
  rw [le_I] at hmn
  have hle := of_decide_eq_true hmn
  unfold leB
  by_cases e : tgK ns tg n = tgK ns tg m
  · rw [if_pos e]
    refine decide_eq_false fun hpl => ?_
    obtain ⟨_, m2, m3⟩ := pl_in (ordP_mem.mp (List.mem_of_getElem? hm))
    obtain ⟨_, n2, n3⟩ := pl_in (ordP_mem.mp (List.mem_of_getElem? hn2))
    have hne : plK ns n ≠ plK ns m := fun z => by
      rw [z, m3] at n3
      have e2 := Option.some.inj n3
      subst e2
      exact sub_not nd hm hn2 (pair_sub (Nat.lt_succ_self i) hm hn2)
    have hsub : [n, m].Sublist ns := pair_sub (i := plK ns n) (j := plK ns m) (by omega) n3 m3
    exact sub_not nd hm hn2 (List.pair_sublist_mergeSort (le := dataLe false (kdI (tgK ns tg))) T.trans tot (by rw [le_I]; exact decide_eq_true (by omega)) hsub)
  · rw [if_neg e]
    exact decide_eq_false (by omega)
end
local macro_rules | `(tactic| walk_at "side") => `(tactic| (first | assumption | omega | exact rfl | decide | (simp only [List.length_cons, List.length_nil, List.length_map, List.length_append, List.length_replicate] <;> omega)))
local macro_rules | `(tactic| walk_at "ro") => `(tactic| (first
  | with_reducible exact ro_I0
  | with_reducible exact ro_1018
  | with_reducible exact ro_neC
  | with_reducible exact ro_eqC
  | with_reducible exact ro_neI
  | with_reducible exact ro_eqI
  | with_reducible exact ro_neB
  | with_reducible exact ro_eqB
  | ((with_reducible apply ro_mod); (walk_at "side"))
  | ((with_reducible apply ro_div) <;> (walk_at "side"))
  | ((with_reducible apply ro_divW) <;> (walk_at "side"))
  | with_reducible exact ro_1012
  | with_reducible exact ro_1015
  | ((with_reducible apply ro_mulL) <;> (walk_at "side"))
  | ((with_reducible apply ro_mulR) <;> (walk_at "side"))
  | ((with_reducible apply ro_addC); (walk_at "side"))
  | ((with_reducible apply ro_ixC) <;> (walk_at "side"))
  | ((with_reducible apply ro_ixI) <;> (walk_at "side"))
  | ((with_reducible apply ro_ixIN) <;> (walk_at "side"))
  | ((with_reducible apply ro_ixT2) <;> (walk_at "side"))
  | ((with_reducible apply ro_ixG) <;> (walk_at "side"))
  | ((with_reducible apply ro_eq); exact rfl)
  | ((with_reducible apply ro_ne); exact rfl)
  | with_reducible exact ro_isN
  | with_reducible exact ro_notN
  | with_reducible exact ro_eqL
  | with_reducible exact ro_neL
  | with_reducible exact ro_eqU
  | ((with_reducible apply ro_cat); (walk_at "side"))
  | with_reducible exact ro_inLi
  | with_reducible exact ro_inNi
  | with_reducible exact ro_inUi
  | ((with_reducible apply ro_inL) <;> (walk_at "side"))
  | ((with_reducible apply ro_inN) <;> (walk_at "side"))
  | ((with_reducible apply ro_inU) <;> (walk_at "side"))))
local macro_rules | `(tactic| walk_at "rc") => `(tactic| (first
  | with_reducible exact rc_int
  | with_reducible exact rc_intB
  | with_reducible exact rc_max2
  | ((with_reducible apply rc_lenC); (walk_at "side"))
  | with_reducible exact rc_lenI
  | with_reducible exact rc_lenT
  | with_reducible exact rc_lenIN
  | with_reducible exact rc_lenTN
  | with_reducible exact rc_lenL
  | with_reducible exact rc_lenN
  | with_reducible exact rc_lenU
  | with_reducible exact rc_listL
  | with_reducible exact rc_listU
  | with_reducible exact rc_tupL
  | with_reducible exact rc_tupN
  | ((with_reducible apply rc_isi_int); decide +kernel)
  | ((with_reducible apply rc_isi_str); decide +kernel)
  | ((with_reducible apply rc_isi_bl); decide +kernel)
  | ((with_reducible apply rc_isi_non); decide +kernel)
  | ((with_reducible apply rc_isi_u); decide +kernel)
  | ((with_reducible apply rc_isi_l); decide +kernel)))
local macro_rules | `(tactic| walk_at "er") => `(tactic| (first
  | ((with_reducible apply er_var); (exact rfl); assumption)
  | ((with_reducible apply er_v); exact rfl)
  | with_reducible exact er_c
  | ((with_reducible apply er_pick); (walk_at "er"); (walk_at "er"); (walk_at "er"))
  | ((with_reducible apply er_op); (walk_at "er"); (walk_at "er"); (walk_at "ro"))
  | ((with_reducible apply er_cb); (walk_at "era"); (walk_at "rc"))
  | ((with_reducible apply er_lst'); (walk_at "era"); (exact rfl); (walk_at "side"))
  | ((with_reducible apply er_tup'); (walk_at "era"); (exact rfl); (walk_at "side"))
  | ((with_reducible apply er_notV); (walk_at "er"))
  | ((with_reducible apply er_andV); (walk_at "er"); (intro _; (walk_at "er")))
  | ((with_reducible apply er_orV); (walk_at "er"); (intro _; (walk_at "er")))
  | ((with_reducible apply er_ite); (walk_at "et"); (intro _; (walk_at "er")); (intro _; (walk_at "er")))))
local macro_rules | `(tactic| walk_at "era") => `(tactic| (first
  | with_reducible exact era_nil
  | ((with_reducible apply era_cons); (walk_at "er"); (walk_at "era"))))
local macro_rules | `(tactic| walk_at "et") => `(tactic| (first
  | ((with_reducible apply et_an); (walk_at "et"); (intro _; (walk_at "et")))
  | ((with_reducible apply et_orr); (walk_at "et"); (intro _; (walk_at "et")))
  | ((with_reducible apply et_nt); (walk_at "et"))
  | ((with_reducible apply et1); (walk_at "er"))
  | ((with_reducible apply et2); (walk_at "er"))))

section
variable {K : PySem.W.Frag} {σ : L2.St} {G H : Hp} {te tl : TE} {t : TT} {tr : TA}
theorem er_lcU {α : Type} {its : List α} {inj : α → V} {j : Nat} {vs : List Nat} (f : α → Bool) (g : α → V) (h : Er K tl σ H (.u (its.map inj))) (hz : its.length ≤ 40000) (hw : ∀ x, wipe ((wipe σ vs).set j (some x)) vs = wipe σ vs)
    (ht : ∀ (i : Nat) x H1, Ex H H1 → its[i]? = some x → EvT t ((wipe σ vs).set j (some (inj x))) H1 (f x)) (he : ∀ (i : Nat) x H1, Ex H H1 → its[i]? = some x → f x = true → Er K te ((wipe σ vs).set j (some (inj x))) H1 (.v (g x))) :
    Er K (tLc (iTup K tl) (gName j) t te vs) σ H (.n ((its.filter f).map g)) := fun H0 e Q q => h H0 e _ fun w H1 e1 ⟨a, ea, ha⟩ => by
  subst ea
  refine ⟨a, rfl, ⟨_, ha⟩, fun Dl hD => ?_⟩
  refine lc_tup (xs := its.map inj) (Cv H1 its f g Dl) ⟨hD, Ex.new hD, upd_same⟩ (fun i H' _ p => ex_t p.2.1 ha) (fun i y H' hy p => ?_) fun H' p => ?_
  · rw [List.getElem?_map] at hy
    cases hx : its[i]? with
    | none => rw [hx] at hy; cases hy
    | some x =>
      rw [hx] at hy
      have ey : inj x = y := Option.some.inj hy
      subst ey
      exact ⟨hw _, cv_turn p hx (by omega) (Ex.refl _) (ht i x H1 (e.trans e1) hx) (fun hf => he i x H1 (e.trans e1) hx hf)⟩
  · obtain ⟨p1, p2, p3⟩ := p
    refine q _ H' (e1.trans p2) ⟨Dl, rfl, ?_⟩
    rw [p3, List.length_map, acc_all]
theorem rcf_dictZ {b : Bool} {ns : List (List Nat)} {tg : List Int} (hn : ns.Nodup) (hl : tg.length = ns.length) : Rcf K (rDictZ K) [.U (tsD ns), tgD b tg] (dicD (kvP ns tg)) := by
  intro vs G A e h Q q
  rcases h with _ | ⟨h1, _ | ⟨h2, _ | _⟩⟩
  obtain ⟨p, rfl, hp⟩ := Is.U2u (is_cast h1 (show Dd.U (tsD ns) = Dd.U ((vsl ns).map Dd.v) by rw [tsD_vsl]))
  obtain ⟨p2, rfl, hp2⟩ := tgD_sq h2
  refine ⟨p, p2, ns.map S, vis tg, rfl, .inr (ex_t e hp), hp2.imp (ex_l e) (ex_t e), by simp [hl], List.pairwise_map.mpr (hn.imp fun h e => h (S_inj e)), fun l hl => q _ _ _ (Step.new e hl) ⟨l, rfl, upd_same⟩⟩
end
section
variable {P : Program} {w : World} {K : PySem.W.Frag} {mg : Str → Option Value} {base : Heap}
/-! ### stock.names, seen -/
abbrev sp_nmF (K : PySem.W.Frag) (C : Addr) : Sp := spF K (fun a : Nat × List (List Nat × List Nat) => a.2.length ≤ 1000) (fun a => [stockC K C (a.1 : Int) a.2]) fun a => .U (tsD (nmV a.2))
theorem ok_namesF {f C : Addr} {fd : FuncData} (F : Fun K "names" "Stock.names" s_Stock_names f fd) (T : Txt K mg) (TS : StTxt K mg C) : FnOk P w K mg base CX0 1 f fd ["self"] (sp_nmF K C) := by
  have sc := sc_Stock_names
  refine F.ok sc (fun vs H Q E h => ?_) (fun cdv A outer s H vs Q E hr h => ?_)
  · obtain ⟨a, _, _, _, hv, _⟩ := h
    rcases hv with _ | ⟨_, _ | _⟩
    rfl
  obtain ⟨⟨n, sts⟩, hp, G, hA, hv, hk⟩ := h
  replace hp : sts.length ≤ 1000 := hp
  rcases hv with _ | ⟨hx, _ | _⟩
  rename_i x
  replace hx : Is K G (stockC K C (n : Int) sts) x := hx
  refine ⟨_, (pss_one (ps_ret (pe_callTy (cr_tuple_k (K := K)) (by rfl) T.b_tuple (by decide +kernel) (pa_cons (pe_lc (own := [("name", 1), ("stamp", 2)]) (g := gTup K 2 (gCons (gName 1) (gCons (gName 2) gNil))) (by rfl) sc.nd (pi_tup_k (K := K) (pe_fld (pv 0) rfl)) (blkOk_by (N := ["self", "name", "stamp"]) (sc := defScope s_Stock_names) (own := [("name", 1), ("stamp", 2)]) (by decide +kernel)) (fun _ _ _ _ _ => (pg_tup rfl (pgs_cons (pg_name (i := 1) sc.nd rfl (Or.inl rfl)) (pgs_cons (pg_name (i := 2) sc.nd rfl (Or.inl rfl)) pgs_nil)))) (fun _ _ _ _ _ => pts_nil) (fun _ _ _ _ _ => (pv 1))) pa_nil)))), ?_⟩
  refine s_ret (K := K) (G := G) (d' := .U (tsD (nmV sts))) (ef_cb (efa_cons (ef_lc (K := K) (G := G) (its := sts) (inj := fun p => Dd.U [.s (S p.1), .s (S p.2)]) (vs := [1, 2]) (fun _ => true) (fun p => Dd.s (S p.1)) (if_tup (ef_stamps TS.cl TS.nT (Ef.as (ef_var (i := 0) rfl hx) fun Hx v z => stockC_D z))) (by omega) (fun i p v G' A' g1 g2 hi hv => ?_)) efa_nil) rf_tupN) hA ?_ hk
  · refine ⟨[some x, some (.str (S p.1)), some (.str (S p.2))], fun Q q => g_two g2 hv fun v1 v2 h1 h2 => ?_, rfl, fun H2 e Q q => q H2 (Ex.refl _), fun _ => ?_⟩
    · obtain rfl : v1 = V.str (S p.1) := h1
      obtain rfl : v2 = V.str (S p.2) := h2
      exact q
    · exact ef_flat (er_v rfl)
  · rw [filt_true, tsD, nmV, List.map_map]
    rfl
theorem ef_names {σ : L2.St} {G : Hp} {te : TE} {C : Addr} {n : Nat} {sts : List (List Nat × List Nat)} (h : Ef K te σ G (stockC K C (n : Int) sts)) (hp : sts.length ≤ 1000) : Ef K (tProp C (sp_nmF K C) [] E0 te) σ G (.U (tsD (nmV sts))) := fun G1 A e1 e2 Q q =>
  h G1 A e1 e2 _ fun v G2 A2 s2 hz => by
    have hz' : Is K G2 (stockC K C (n : Int) sts) v := hz
    obtain ⟨x, dx, ps, dd, rfl, hx, h3, h4⟩ := hz
    exact ⟨x, dx, _, rfl, s2.v x _ hx, (n, sts), hp, G2, s2.v, .cons hz' .nil, fun v G' A' s z => q v G' A' (s2.trans s) z⟩
end
end Mi

set_option maxHeartbeats 4000000
namespace Mi
open PySem PySem.Spec PyProof.Rows L2 Evl
local macro_rules | `(tactic| walk_at "side") => `(tactic| (first | assumption | omega | exact rfl | decide | (simp only [List.length_cons, List.length_nil, List.length_map, List.length_append, List.length_replicate] <;> omega)))
local macro_rules | `(tactic| walk_at "ro") => `(tactic| (first
  | with_reducible exact ro_I0
  | with_reducible exact ro_1018
  | with_reducible exact ro_neC
  | with_reducible exact ro_eqC
  | with_reducible exact ro_neI
  | with_reducible exact ro_eqI
  | with_reducible exact ro_neB
  | with_reducible exact ro_eqB
  | ((with_reducible apply ro_mod); (walk_at "side"))
  | ((with_reducible apply ro_div) <;> (walk_at "side"))
  | ((with_reducible apply ro_divW) <;> (walk_at "side"))
  | with_reducible exact ro_1012
  | with_reducible exact ro_1015
  | ((with_reducible apply ro_mulL) <;> (walk_at "side"))
  | ((with_reducible apply ro_mulR) <;> (walk_at "side"))
  | ((with_reducible apply ro_addC); (walk_at "side"))
  | ((with_reducible apply ro_ixC) <;> (walk_at "side"))
  | ((with_reducible apply ro_ixI) <;> (walk_at "side"))
  | ((with_reducible apply ro_ixIN) <;> (walk_at "side"))
  | ((with_reducible apply ro_ixT2) <;> (walk_at "side"))
  | ((with_reducible apply ro_ixG) <;> (walk_at "side"))
  | ((with_reducible apply ro_eq); exact rfl)
  | ((with_reducible apply ro_ne); exact rfl)
  | with_reducible exact ro_isN
  | with_reducible exact ro_notN
  | with_reducible exact ro_eqL
  | with_reducible exact ro_neL
  | with_reducible exact ro_eqU
  | ((with_reducible apply ro_cat); (walk_at "side"))
  | with_reducible exact ro_inLi
  | with_reducible exact ro_inNi
  | with_reducible exact ro_inUi
  | ((with_reducible apply ro_inL) <;> (walk_at "side"))
  | ((with_reducible apply ro_inN) <;> (walk_at "side"))
  | ((with_reducible apply ro_inU) <;> (walk_at "side"))))
local macro_rules | `(tactic| walk_at "rc") => `(tactic| (first
  | with_reducible exact rc_int
  | with_reducible exact rc_intB
  | with_reducible exact rc_max2
  | ((with_reducible apply rc_lenC); (walk_at "side"))
  | with_reducible exact rc_lenI
  | with_reducible exact rc_lenT
  | with_reducible exact rc_lenIN
  | with_reducible exact rc_lenTN
  | with_reducible exact rc_lenL
  | with_reducible exact rc_lenN
  | with_reducible exact rc_lenU
  | with_reducible exact rc_listL
  | with_reducible exact rc_listU
  | with_reducible exact rc_tupL
  | with_reducible exact rc_tupN
  | ((with_reducible apply rc_isi_int); decide +kernel)
  | ((with_reducible apply rc_isi_str); decide +kernel)
  | ((with_reducible apply rc_isi_bl); decide +kernel)
  | ((with_reducible apply rc_isi_non); decide +kernel)
  | ((with_reducible apply rc_isi_u); decide +kernel)
  | ((with_reducible apply rc_isi_l); decide +kernel)))
local macro_rules | `(tactic| walk_at "er") => `(tactic| (first
  | ((with_reducible apply er_var); (exact rfl); assumption)
  | ((with_reducible apply er_v); exact rfl)
  | with_reducible exact er_c
  | ((with_reducible apply er_pick); (walk_at "er"); (walk_at "er"); (walk_at "er"))
  | ((with_reducible apply er_op); (walk_at "er"); (walk_at "er"); (walk_at "ro"))
  | ((with_reducible apply er_cb); (walk_at "era"); (walk_at "rc"))
  | ((with_reducible apply er_lst'); (walk_at "era"); (exact rfl); (walk_at "side"))
  | ((with_reducible apply er_tup'); (walk_at "era"); (exact rfl); (walk_at "side"))
  | ((with_reducible apply er_notV); (walk_at "er"))
  | ((with_reducible apply er_andV); (walk_at "er"); (intro _; (walk_at "er")))
  | ((with_reducible apply er_orV); (walk_at "er"); (intro _; (walk_at "er")))
  | ((with_reducible apply er_ite); (walk_at "et"); (intro _; (walk_at "er")); (intro _; (walk_at "er")))))
local macro_rules | `(tactic| walk_at "era") => `(tactic| (first
  | with_reducible exact era_nil
  | ((with_reducible apply era_cons); (walk_at "er"); (walk_at "era"))))
local macro_rules | `(tactic| walk_at "et") => `(tactic| (first
  | ((with_reducible apply et_an); (walk_at "et"); (intro _; (walk_at "et")))
  | ((with_reducible apply et_orr); (walk_at "et"); (intro _; (walk_at "et")))
  | ((with_reducible apply et_nt); (walk_at "et"))
  | ((with_reducible apply et1); (walk_at "er"))
  | ((with_reducible apply et2); (walk_at "er"))))

section
variable {P : Program} {w : World} {K : PySem.W.Frag} {mg : Str → Option Value} {base : Heap}
abbrev sp5_cn (K : PySem.W.Frag) (C : Addr) : Sp := spF K (fun a : SRow => a.2.2.length ≤ 1000 ∧ ∀ m ∈ a.2.2, m ∈ nmV a.1.2) (fun a => [stockC K C (a.1.1 : Int) a.1.2, sq5 a.2.1 (tsD a.2.2)]) fun a => .U (tsD a.2.2)
theorem has_checked_names {C fC : Addr} {fdC : FuncData} (T : Txt K mg) (TS : StTxt K mg C) (h : At K mg "checked_names" s_checked_names ["stock", "names"]) (hiC : PySem.W.findIn K (.ref C) "__contains__" = some (some (.ref fC))) (hfC : PySem.W.isFn K (.ref fC) = true) (FC : FnOk P w K mg base CX0 1 fC fdC ["self", "name"] (sp_contains K C)) (bC : Binds K fdC ["self", "name"] []) : Has P w K mg base 2 "checked_names" ["stock", "names"] (sp5_cn K C) := by
  refine h.hasF sc_checked_names (fun _ => rfl) fun f cdv Ar outer s G A a vs Q E hr hp hA hv hk => ?_
  obtain ⟨⟨n, sts⟩, b, r⟩ := a
  obtain ⟨hp0, hp⟩ := hp
  replace hp : ∀ m ∈ r, m ∈ nmV sts := hp
  rcases hv with _ | ⟨hx, _ | ⟨hy, _ | _⟩⟩
  rename_i x y
  replace hx : Is K G (stockC K C (n : Int) sts) x := hx
  replace hy : Is K G (sq5 b (tsD r)) y := hy
  have sc := sc_checked_names
  refine ⟨_, (pss_cons (ps_for PassesOwn.never rfl (pi_seqV (K := K) (pv 1)) (pg_name (i := 2) sc.nd rfl (Or.inl rfl)) (pss_one (ps_if (pt_cmpR (op_notInO hiC hfC FC bC (hr.mono (by decide))) (pv 2) (pv 0) rfl) (pss_one ps_never) pss_nil)))
    (pss_one (ps_ret (pe_callTy (cr_tuple_k (K := K)) (by rfl) T.b_tuple (by decide +kernel) (pa_cons (pv 1) pa_nil))))), ?_⟩
  refine b_for (K := K) (G := G) (ds := tsD r) (if_sq5 (i := 1) rfl hy) hA (fun i σ' G' A' => ∃ z, σ' = [some x, some y, z] ∧ Step G A G' A') (fun G1 A1 s1 => ⟨none, rfl, s1⟩) ?_ ?_
  · rintro G1 eg i dd v σ' G' A' G2 A2 hdd ⟨z, rfl, st⟩ g3 g4 s2 hv
    obtain ⟨m, hm, rfl⟩ := tsD_at hdd
    obtain rfl : v = V.str (S m) := hv
    have st2 := st.trans s2
    have hin := hp m (List.mem_of_getElem? hm)
    unfold gName
    refine a_when1 (K := K) (b := !(sts.find? fun p => decide (p.1 = m)).isSome) (et1 (er_op (d1 := .s (S m)) (er_v rfl) (er_var (i := 0) rfl (hx.mono (hA.trans st2.a))) ro_notInO)) (fun hb => by rw [in_stock, decide_eq_true hin] at hb; cases hb) fun _ H1 e1 => ?_
    exact ⟨G2, ⟨_, rfl, st2.trans (.on s2.v e1)⟩, g3.trans s2.g, s2.v.trans e1⟩
  · rintro σ' G' A' eg evv ⟨z, rfl, st⟩
    exact s_ret (K := K) (G := G') (ef_cb (efa_cons (ef_var (i := 1) rfl (hy.mono eg)) efa_nil) rf_tup5) evv rfl fun v G2 A2 s2 hv => hk v G2 A2 (st.trans s2) hv

abbrev sp_pb (K : PySem.W.Frag) (C : Addr) : Sp := spF K (fun a : PrB => StN a.1.2 ∧ a.2.2.length = a.1.2.length) (fun a => [stockC K C (a.1.1 : Int) a.1.2, tgD a.2.1 a.2.2]) fun a => dicD (kvP (nmV a.1.2) a.2.2)
theorem has_prices_by_name {C CB CS CU CC fL p fN : Addr} {fdL fdN : FuncData} (T : Txt K mg) (TS : StTxt K mg C) (TB : BpTxt K mg CB CS CU CC) (h : At K mg "prices_by_name" s_prices_by_name ["stock", "prices"]) (hiL : PySem.W.findIn K (.ref C) "__len__" = some (some (.ref fL))) (hfL : PySem.W.isFn K (.ref fL) = true) (FL : FnOk P w K mg base CX0 1 fL fdL ["self"] (sp_len K C)) (bL : Binds K fdL ["self"] []) (P_names : PropOf K C "names" p fN) (F_names : FnOk P w K mg base CX0 1 fN fdN ["self"] (sp_nmF K C)) (b_names : Binds K fdN ["self"] []) : Has P w K mg base 3 "prices_by_name" ["stock", "prices"] (sp_pb K C) := by
  refine h.hasF sc_prices_by_name (fun _ => rfl) fun f cdv Ar outer s G A a vs Q E hr hp hA hv hk => ?_
  obtain ⟨⟨n, sts⟩, b, tg⟩ := a
  obtain ⟨hp, hl⟩ := hp
  replace hp : StN sts := hp
  replace hl : tg.length = sts.length := hl
  rcases hv with _ | ⟨hs, _ | ⟨hy, _ | _⟩⟩
  rename_i x y
  replace hs : Is K G (stockC K C (n : Int) sts) x := hs
  replace hy : Is K G (tgD b tg) y := hy
  have few := hp.few
  have sc := sc_prices_by_name
  refine ⟨_, (pss_cons (ps_if (pt_cmpR op_ne (pe_callB (cr_len_k (K := K)) (by rfl) T.b_len (by decide +kernel) (pa_cons (pv 1) pa_nil)) (pe_callB (cr_lenO hiL hfL FL bL (hr.mono (by decide))) (by rfl) T.b_len (by decide +kernel) (pa_cons (pv 0) pa_nil)) (nomark _)) (pss_one ps_never) pss_nil)
    (pss_one (ps_ret (pe_dictZ (by rfl) TB.bD (by rfl) T.b_zip (pa_cons (pe_prop (pv 0) TS.cl P_names F_names (hr.mono (by decide)) b_names .nil pass0 rfl) (pa_cons (pv 1) pa_nil)))))), ?_⟩
  refine a_when (K := K) (b := !decide ((tg.length : Int) = (sts.length : Int))) (et1 (er_op (er_cb (era_cons (er_var (i := 1) rfl (hy.mono hA)) era_nil) rc_lenP) (er_cb (era_cons (er_var (i := 0) rfl (hs.mono hA)) era_nil) (rc_lenO few)) ro_neI)) (fun hb => absurd hb (by rw [hl]; simp)) fun hb H1 e1 => ?_
  exact s_ret (K := K) (G := G) (d' := dicD (kvP (nmV sts) tg)) (ef_cb (efa_cons (ef_names (ef_var (i := 0) rfl hs) few) (efa_cons (ef_var (i := 1) rfl hy) efa_nil)) (rcf_dictZ hp.nd (by rw [StN.nl]; exact hl))) (hA.trans e1) rfl fun v G' A' st z => hk v G' A' ((Step.on hA e1).trans st) z
theorem okN_all {sts : List (List Nat × List Nat)} {r : Row} (h : okN sts r = true) : ∀ m ∈ r, m ∈ nmV sts := fun m hm => of_decide_eq_true (List.all_eq_true.mp h m hm)
/-! ### what a row costs -/
abbrev s_row_cost : Stmt := topS 30
theorem sc_row_cost : FnScope ["stock", "prices", "row", "price_of", "name"] ["stock", "prices", "row"] (defScope s_row_cost) := ⟨rfl, rfl, rfl, by decide +kernel, rfl, by decide +kernel, by decide +kernel⟩

abbrev RcA := (Nat × List (List Nat × List Nat)) × (Bool × List Int) × Bool × Row
theorem sum_dd {ns : List (List Nat)} {tg : List Int} {r : Row} : Dd.n ((r.filter fun _ => true).map fun m => V.int (tgK ns tg m)) = Dd.n (vis (r.map (tgK ns tg))) := by
  rw [filt_true, vis, List.map_map]
  rfl
theorem row_u {r : Row} {H : Hp} {v : V} (h : Is K H (.U (tsD r)) v) : Is K H (.u (r.map fun m => V.str (S m))) v := Is.U2u (is_cast h (by simp [tsD, Function.comp_def]))
abbrev sp_rc (K : PySem.W.Frag) (C : Addr) : Sp := spR K (fun a : RcA => (StN a.1.2 ∧ a.2.1.2.length = a.1.2.length) ∧ a.2.2.2.length ≤ 1000 ∧ ∀ m ∈ a.2.2.2, m ∈ nmV a.1.2) (fun a => [stockC K C (a.1.1 : Int) a.1.2, tgD a.2.1.1 a.2.1.2, sq5 a.2.2.1 (tsD a.2.2.2)]) fun a => .i (sumM (nmV a.1.2) a.2.1.2 a.2.2.2)
theorem fn_row_cost0 {C f : Addr} {fd : FuncData} (T : Txt K mg) (F : Fun K "row_cost" "row_cost" s_row_cost f fd) (C_prices_by_name : Has P w K mg base 3 "prices_by_name" ["stock", "prices"] (sp_pb K C)) (C_checked_names : Has P w K mg base 2 "checked_names" ["stock", "names"] (sp5_cn K C)) : FnOk P w K mg base CX0 4 f fd ["stock", "prices", "row"] (sp_rc K C) := by
  refine Fun.okR F sc_row_cost (fun _ => rfl) fun cdv A outer s H a vs Q E hr hp hv hk => ?_
  obtain ⟨⟨n, sts⟩, ⟨b, tg⟩, b2, r⟩ := a
  obtain ⟨⟨hp, hl⟩, h3, hm⟩ := hp
  replace hp : StN sts := hp
  replace hl : tg.length = sts.length := hl
  replace h3 : r.length ≤ 1000 := h3
  replace hm : ∀ m ∈ r, m ∈ nmV sts := hm
  rcases hv with _ | ⟨hs, _ | ⟨hy, _ | ⟨hz, _ | _⟩⟩⟩
  rename_i x y z
  replace hs : Is K H (stockC K C (n : Int) sts) x := hs
  replace hy : Is K H (tgD b tg) y := hy
  replace hz : Is K H (sq5 b2 (tsD r)) z := hz
  have sc := sc_row_cost
  refine ⟨_, (pss_cons (ps_set (i := 3) sc.nd rfl (Or.inr rfl) (pe_callH C_prices_by_name (hr.mono (by decide)) (pa_cons (pv 0) (pa_cons (pv 1) pa_nil))))
    (pss_one (ps_ret (pe_callB (cr_sum_k (K := K)) (by rfl) T.b_sum (by decide +kernel) (pa_cons (pe_lc (own := [("name", 4)]) (g := gName 4) (by rfl) sc.nd (pi_tup_k (K := K) (pe_callH C_checked_names (hr.mono (by decide)) (pa_cons (pv 0) (pa_cons (pv 2) pa_nil)))) (blkOk_by (N := ["stock", "prices", "row", "price_of", "name"]) (sc := defScope s_row_cost) (own := [("name", 4)]) (by decide +kernel)) (fun _ _ _ _ _ => (pg_name (i := 4) sc.nd rfl (Or.inl rfl))) (fun _ _ _ _ _ => pts_nil) (fun _ _ _ _ _ => (pe_ix ix_dK (pv 3) (pv 4) (fun _ _ => rfl)))) pa_nil))))), ?_⟩
  refine a_asg (K := K) (d := dicD (kvP (nmV sts) tg)) (er_callF (K := K) (((n, sts), b, tg) : PrB) (era_cons (er_var (i := 0) rfl hs) (era_cons (er_var (i := 1) rfl hy) era_nil)) rfl ⟨hp, hl⟩) fun vd H1 e1 hd => ?_
  refine a_rete (K := K) (er_cb (era_cons (Er.n2l (Er.to (er_lcU (K := K) (its := r) (inj := fun m => V.str (S m)) (vs := [4]) (fun _ => true) (fun m => V.int (tgK (nmV sts) tg m)) (Er.as (er_callF (K := K) (((n, sts), b2, r) : SRow) (era_cons (er_var (i := 0) rfl (hs.mono e1)) (era_cons (er_var (i := 2) rfl (hz.mono e1)) era_nil)) rfl ⟨h3, hm⟩) fun _ _ z => row_u z) (by omega) (fun _ => rfl) (fun i m H2 e2 hx H3 e Q q => q H3 (Ex.refl _)) (fun i m H2 e2 hx _ => er_op (er_var (i := 3) rfl (hd.mono e2)) (er_v rfl) (ro_ixK (price_at hp.nd (by rw [StN.nl]; exact hl) (hm m (List.mem_of_getElem? hx)))))) sum_dd)) era_nil) rc_sumI) (by rw [sum_map]) e1 hk
theorem hasD_row_cost {C : Addr} (T : Txt K mg) (h : At K mg "row_cost" s_row_cost ["stock", "prices", "row"]) (C_prices_by_name : Has P w K mg base 3 "prices_by_name" ["stock", "prices"] (sp_pb K C)) (C_checked_names : Has P w K mg base 2 "checked_names" ["stock", "names"] (sp5_cn K C)) : HasD P w K mg base 4 "row_cost" ["stock", "prices", "row"] (sp_rc K C) := by
  obtain ⟨f, fd, hm, F, _, _⟩ := h.ex
  have kp := F.kp
  have ok := fn_row_cost0 T F C_prices_by_name C_checked_names
  obtain ⟨oc, od, kV, doc, pm, an, cdv, ct, osl, rfl, lk, hcd⟩ := F.ex
  exact ⟨f, _, hm, kp, ok, fun s ws hl => match ws, hl with | [_, _, _], _ => .of_eq rfl⟩
theorem has_row_cost {C : Addr} (T : Txt K mg) (h : At K mg "row_cost" s_row_cost ["stock", "prices", "row"]) (C_prices_by_name : Has P w K mg base 3 "prices_by_name" ["stock", "prices"] (sp_pb K C)) (C_checked_names : Has P w K mg base 2 "checked_names" ["stock", "names"] (sp5_cn K C)) : Has P w K mg base 4 "row_cost" ["stock", "prices", "row"] (sp_rc K C) := h.has fun {f fd} F => fn_row_cost0 T F C_prices_by_name C_checked_names
abbrev spX_rc (K : PySem.W.Frag) (C CB CU : Addr) : Sp := spX K (fun a : RcA => StN a.1.2 ∧ a.2.2.2.length ≤ 1000) (fun a => [stockC K C (a.1.1 : Int) a.1.2, tgD a.2.1.1 a.2.1.2, sq5 a.2.2.1 (tsD a.2.2.2)]) (fun a => decide (a.2.1.2.length = a.1.2.length) && okN a.1.2 a.2.2.2) (fun a => .i (sumM (nmV a.1.2) a.2.1.2 a.2.2.2)) (fun a => if a.2.1.2.length = a.1.2.length then unEr CU (badN a.1.2 a.2.2.2) else bpEr CB)
theorem fn_row_cost {C CB CU f : Addr} {fd : FuncData} (T : Txt K mg) (F : Fun K "row_cost" "row_cost" s_row_cost f fd) (X_prices_by_name : HasX P w K mg base 3 "prices_by_name" ["stock", "prices"] (spX_pb K C CB)) (X_checked_names : HasX P w K mg base 3 "checked_names" ["stock", "names"] (spX_cn K C CU)) : FnOk P w K mg base (L2N.CX P w) 4 f fd ["stock", "prices", "row"] (spX_rc K C CB CU) := by
  refine Fun.okXs F sc_row_cost (fun _ => rfl) fun cdv A outer s H a vs Q E hr hp hv hk hx => ?_
  obtain ⟨⟨n, sts⟩, ⟨b, tg⟩, b2, r⟩ := a
  obtain ⟨hp, h3⟩ := hp
  replace hp : StN sts := hp
  replace h3 : r.length ≤ 1000 := h3
  rcases hv with _ | ⟨hs, _ | ⟨hy, _ | ⟨hz, _ | _⟩⟩⟩
  rename_i x y z
  replace hs : Is K H (stockC K C (n : Int) sts) x := hs
  replace hy : Is K H (tgD b tg) y := hy
  replace hz : Is K H (sq5 b2 (tsD r)) z := hz
  have hk : (decide (tg.length = sts.length) && okN sts r) = true → ∀ v H', Ex H H' → Is K H' (.i (sumM (nmV sts) tg r)) v → Q v H' := hk
  have hx : (decide (tg.length = sts.length) && okN sts r) = false → ∀ cls d H', Ex H H' → (if tg.length = sts.length then unEr CU (badN sts r) else bpEr CB) cls d H' → E cls d H' := hx
  have sc := sc_row_cost
  refine ⟨_, (pss_cons (ps_set (i := 3) sc.nd rfl (Or.inr rfl) (pe_callX X_prices_by_name (L2N.takes_of rfl rfl rfl rfl) (hr.mono (by decide)) (pa_cons (pv 0) (pa_cons (pv 1) pa_nil))))
    (pss_one (ps_ret (pe_callB (cr_sum_k (K := K)) (by rfl) T.b_sum (by decide +kernel) (pa_cons (pe_lc (own := [("name", 4)]) (g := gName 4) (by rfl) sc.nd (pi_tup_k (K := K) (pe_callX X_checked_names (L2N.takes_of rfl rfl rfl rfl) (hr.mono (by decide)) (pa_cons (pv 0) (pa_cons (pv 2) pa_nil)))) (blkOk_by (N := ["stock", "prices", "row", "price_of", "name"]) (sc := defScope s_row_cost) (own := [("name", 4)]) (by decide +kernel)) (fun _ _ _ _ _ => (pg_name (i := 4) sc.nd rfl (Or.inl rfl))) (fun _ _ _ _ _ => pts_nil) (fun _ _ _ _ _ => (pe_ix ix_dK (pv 3) (pv 4) (fun _ _ => rfl)))) pa_nil))))), ?_⟩
  by_cases hl : tg.length = sts.length
  · refine a_asg (K := K) (d := dicD (kvP (nmV sts) tg)) (er_callX (K := K) (((n, sts), b, tg) : PrB) (era_cons (er_var (i := 0) rfl hs) (era_cons (er_var (i := 1) rfl hy) era_nil)) rfl hp (decide_eq_true hl)) fun vd H1 e1 hd => ?_
    cases ho : okN sts r
    · refine x_no (K := K) (((n, sts), b2, r) : SRow) (era_cons (er_var (i := 0) rfl (hs.mono e1)) (era_cons (er_var (i := 2) rfl (hz.mono e1)) era_nil)) rfl h3 ho fun cls d H' e her => hx (by rw [ho, Bool.and_false]) cls d H' (e1.trans e) (by rw [if_pos hl]; exact her)
    · have hm := okN_all ho
      refine a_rete (K := K) (er_cb (era_cons (Er.n2l (Er.to (er_lcU (K := K) (its := r) (inj := fun m => V.str (S m)) (vs := [4]) (fun _ => true) (fun m => V.int (tgK (nmV sts) tg m)) (Er.as (er_callX (K := K) (((n, sts), b2, r) : SRow) (era_cons (er_var (i := 0) rfl (hs.mono e1)) (era_cons (er_var (i := 2) rfl (hz.mono e1)) era_nil)) rfl h3 ho) fun _ _ z => row_u z) (by omega) (fun _ => rfl) (fun i m H2 e2 hx H3 e Q q => q H3 (Ex.refl _)) (fun i m H2 e2 hx _ => er_op (er_var (i := 3) rfl (hd.mono e2)) (er_v rfl) (ro_ixK (price_at hp.nd (by rw [StN.nl]; exact hl) (hm m (List.mem_of_getElem? hx)))))) sum_dd)) era_nil) rc_sumI) (by rw [sum_map]) e1 (hk (by rw [decide_eq_true hl, ho]; rfl))
  · refine x_no (K := K) (((n, sts), b, tg) : PrB) (era_cons (er_var (i := 0) rfl hs) (era_cons (er_var (i := 1) rfl hy) era_nil)) rfl hp (decide_eq_false hl) fun cls d H' e her => hx (by rw [decide_eq_false hl]; rfl) cls d H' e (by rw [if_neg hl]; exact her)
end
end Mi

set_option maxHeartbeats 4000000
namespace Mi
open PySem PySem.Spec PyProof.Rows L2 Evl
local macro_rules | `(tactic| walk_at "side") => `(tactic| (first | assumption | omega | exact rfl | decide | (simp only [List.length_cons, List.length_nil, List.length_map, List.length_append, List.length_replicate] <;> omega)))
local macro_rules | `(tactic| walk_at "ro") => `(tactic| (first
  | with_reducible exact ro_I0
  | with_reducible exact ro_1018
  | with_reducible exact ro_neC
  | with_reducible exact ro_eqC
  | with_reducible exact ro_neI
  | with_reducible exact ro_eqI
  | with_reducible exact ro_neB
  | with_reducible exact ro_eqB
  | ((with_reducible apply ro_mod); (walk_at "side"))
  | ((with_reducible apply ro_div) <;> (walk_at "side"))
  | ((with_reducible apply ro_divW) <;> (walk_at "side"))
  | with_reducible exact ro_1012
  | with_reducible exact ro_1015
  | ((with_reducible apply ro_mulL) <;> (walk_at "side"))
  | ((with_reducible apply ro_mulR) <;> (walk_at "side"))
  | ((with_reducible apply ro_addC); (walk_at "side"))
  | ((with_reducible apply ro_ixC) <;> (walk_at "side"))
  | ((with_reducible apply ro_ixI) <;> (walk_at "side"))
  | ((with_reducible apply ro_ixIN) <;> (walk_at "side"))
  | ((with_reducible apply ro_ixT2) <;> (walk_at "side"))
  | ((with_reducible apply ro_ixG) <;> (walk_at "side"))
  | ((with_reducible apply ro_eq); exact rfl)
  | ((with_reducible apply ro_ne); exact rfl)
  | with_reducible exact ro_isN
  | with_reducible exact ro_notN
  | with_reducible exact ro_eqL
  | with_reducible exact ro_neL
  | with_reducible exact ro_eqU
  | ((with_reducible apply ro_cat); (walk_at "side"))
  | with_reducible exact ro_inLi
  | with_reducible exact ro_inNi
  | with_reducible exact ro_inUi
  | ((with_reducible apply ro_inL) <;> (walk_at "side"))
  | ((with_reducible apply ro_inN) <;> (walk_at "side"))
  | ((with_reducible apply ro_inU) <;> (walk_at "side"))))
local macro_rules | `(tactic| walk_at "rc") => `(tactic| (first
  | with_reducible exact rc_int
  | with_reducible exact rc_intB
  | with_reducible exact rc_max2
  | ((with_reducible apply rc_lenC); (walk_at "side"))
  | with_reducible exact rc_lenI
  | with_reducible exact rc_lenT
  | with_reducible exact rc_lenIN
  | with_reducible exact rc_lenTN
  | with_reducible exact rc_lenL
  | with_reducible exact rc_lenN
  | with_reducible exact rc_lenU
  | with_reducible exact rc_listL
  | with_reducible exact rc_listU
  | with_reducible exact rc_tupL
  | with_reducible exact rc_tupN
  | ((with_reducible apply rc_isi_int); decide +kernel)
  | ((with_reducible apply rc_isi_str); decide +kernel)
  | ((with_reducible apply rc_isi_bl); decide +kernel)
  | ((with_reducible apply rc_isi_non); decide +kernel)
  | ((with_reducible apply rc_isi_u); decide +kernel)
  | ((with_reducible apply rc_isi_l); decide +kernel)))
local macro_rules | `(tactic| walk_at "er") => `(tactic| (first
  | ((with_reducible apply er_var); (exact rfl); assumption)
  | ((with_reducible apply er_v); exact rfl)
  | with_reducible exact er_c
  | ((with_reducible apply er_pick); (walk_at "er"); (walk_at "er"); (walk_at "er"))
  | ((with_reducible apply er_op); (walk_at "er"); (walk_at "er"); (walk_at "ro"))
  | ((with_reducible apply er_cb); (walk_at "era"); (walk_at "rc"))
  | ((with_reducible apply er_lst'); (walk_at "era"); (exact rfl); (walk_at "side"))
  | ((with_reducible apply er_tup'); (walk_at "era"); (exact rfl); (walk_at "side"))
  | ((with_reducible apply er_notV); (walk_at "er"))
  | ((with_reducible apply er_andV); (walk_at "er"); (intro _; (walk_at "er")))
  | ((with_reducible apply er_orV); (walk_at "er"); (intro _; (walk_at "er")))
  | ((with_reducible apply er_ite); (walk_at "et"); (intro _; (walk_at "er")); (intro _; (walk_at "er")))))
local macro_rules | `(tactic| walk_at "era") => `(tactic| (first
  | with_reducible exact era_nil
  | ((with_reducible apply era_cons); (walk_at "er"); (walk_at "era"))))
local macro_rules | `(tactic| walk_at "et") => `(tactic| (first
  | ((with_reducible apply et_an); (walk_at "et"); (intro _; (walk_at "et")))
  | ((with_reducible apply et_orr); (walk_at "et"); (intro _; (walk_at "et")))
  | ((with_reducible apply et_nt); (walk_at "et"))
  | ((with_reducible apply et1); (walk_at "er"))
  | ((with_reducible apply et2); (walk_at "er"))))

section
variable {P : Program} {w : World} {K : PySem.W.Frag} {mg : Str → Option Value} {base : Heap}
theorem At.hasXC {c : Addr} {x : Str} {st : Stmt} {N ps : List Str} {k : Nat} {sp : Sp} (h : At K mg x st ps) (hc : CodeAt K mg x c) (Sc : FnScope N ps (defScope st)) (len : ∀ vs H Q E, sp vs H Q E → vs.length = ps.length)
    (hb : ∀ (f : Addr) (A : Around) (outer : List Env) (s : Shared) (H : Hp) (vs : List V) (Q : VK) (E : XK), Room k (A.deeper (envOfC x (defScope st) s.heap.objs.size f (.ref c))) → sp vs H Q E → ∃ t, PSs (cxOf (L2N.CX P w) P w K mg base N x (defScope st) f (.ref c) A outer s H E) (defBody st) t ∧ t { nx := fun _ H' => Q .non H', rt := Q } (start N vs) H) : HasX P w K mg base (k + 1) x ps sp := by
  obtain ⟨f, fd, hm, F, b0, _⟩ := h.ex
  have kp := F.kp
  obtain ⟨oc, od, kV, doc, pm, an, cdv, ct, osl, rfl, lk, hcd⟩ := F.ex
  have ec : cdv = .ref c := hc f _ _ hm lk rfl
  subst ec
  exact ⟨f, _, hm, kp, fn_of (CX := L2N.CX P w) lk hcd Sc len fun A outer s H vs Q E hr q => hb f A outer s H vs Q E hr q, b0⟩
abbrev s_price_order : Stmt := topS 31
theorem sc_price_order : FnScope ["stock", "prices", "price_of"] ["stock", "prices"] (defScope s_price_order) := ⟨rfl, rfl, rfl, by decide +kernel, rfl, by decide +kernel, by decide +kernel⟩

theorem po_free : ∀ y ∈ [(("name" : Str), NameKind.local), ("price_of", NameKind.free)], y.2 = .free → (defScope s_price_order).names.lookup y.1 = some .cell ∨ (defScope s_price_order).names.lookup y.1 = some .free := by decide +kernel
abbrev qP : Str := (envOfC "price_order" (defScope s_price_order) 0 0 .none).qual ++ "<lambda>"
abbrev sp_po (K : PySem.W.Frag) (C Pt : Addr) : Sp := spT K Pt qP (fun a : PrB => StN a.1.2 ∧ a.2.2.length = a.1.2.length) (fun a => [stockC K C (a.1.1 : Int) a.1.2, tgD a.2.1 a.2.2]) fun a => .U (tsD (ordP (nmV a.1.2) a.2.2))
theorem po_body {C CB CS CU CC p fN c Pt : Addr} {fdN : FuncData} (T : Txt K mg) (TS : StTxt K mg C) (TB : BpTxt K mg CB CS CU CC) (TBc : LamX.TabB base mg c Pt) (C_prices_by_name : Has P w K mg base 3 "prices_by_name" ["stock", "prices"] (sp_pb K C)) (P_names : PropOf K C "names" p fN) (F_names : FnOk P w K mg base CX0 1 fN fdN ["self"] (sp_nmF K C)) (b_names : Binds K fdN ["self"] []) (f : Addr) (Ar : Around) (outer : List Env) (s : Shared) (G A : Hp) (a : PrB) (vs : List V) (Q : VK) (E : XK) (hr : Room 3 (Ar.deeper (envOfC "price_order" (defScope s_price_order) s.heap.objs.size f (.ref c)))) (hp : StN a.1.2 ∧ a.2.2.length = a.1.2.length) (hA : Ex G A) (t0 : Tb Pt qP G A) (hv : IsAll K G [stockC K C (a.1.1 : Int) a.1.2, tgD a.2.1 a.2.2] vs) (hk : ∀ v G' A', Ex G G' → Ex G' A' → Tb Pt qP G' A' → Is K G' (.U (tsD (ordP (nmV a.1.2) a.2.2))) v → Q v A') :
    ∃ t, PSs (cxOf CX0 P w K mg base ["stock", "prices", "price_of"] "price_order" (defScope s_price_order) f (.ref c) Ar outer s A E).nox (defBody s_price_order) t ∧ t { nx := fun _ A' => Q .non A', rt := Q } (start ["stock", "prices", "price_of"] vs) A := by
  obtain ⟨⟨n, sts⟩, b, tg⟩ := a
  obtain ⟨hp, hl⟩ := hp
  replace hp : StN sts := hp
  replace hl : tg.length = sts.length := hl
  have few := hp.few
  rcases hv with _ | ⟨hs, _ | ⟨hy, _ | _⟩⟩
  rename_i x y
  replace hs : Is K G (stockC K C (n : Int) sts) x := hs
  replace hy : Is K G (tgD b tg) y := hy
  have sc := sc_price_order
  refine ⟨_, (pss_cons (ps_set (i := 2) sc.nd rfl (Or.inr rfl) (pe_callH C_prices_by_name (hr.mono (by decide)) (pa_cons (pv 0) (pa_cons (pv 1) pa_nil))))
    (pss_one (ps_ret (pe_callTy (cr_tuple_k (K := K)) (by rfl) T.b_tuple (by decide +kernel) (pa_cons (pe_sortLC (c := c) (P := Pt) (pn := "name") (fr := ["price_of"]) (js := [2]) (N := ["name", "price_of"]) (k := 0) (hr.mono (by decide)) (by rfl) T.b_sorted (pa_cons (pe_prop (pv 0) TS.cl P_names F_names (hr.mono (by decide)) b_names .nil pass0 rfl) pa_nil) TBc rfl (NdefX.nscope_by (by decide +kernel)) po_free (by decide +kernel) rfl (fun _ _ _ us hl => match us, hl with | [_], _ => rfl) (fun _ _ _ _ _ _ hr => (pe_ix ix_dK (pv 1) (pv 0) (fun _ _ => rfl)))) pa_nil))))), ?_⟩
  refine s_set (K := K) (G := G) (d := dicD (kvP (nmV sts) tg)) (ef_call (((n, sts), b, tg) : PrB) (efa_cons (ef_var (i := 0) rfl hs) (efa_cons (ef_var (i := 1) rfl hy) efa_nil)) rfl ⟨hp, hl⟩) hA fun vd G1 A1 s1 hd => ?_
  refine s_retT (K := K) (P := Pt) (q := qP) (G := G1) (d' := .U (tsD (ordP (nmV sts) tg))) (efT_cb (efaT_cons (efT_sortLC (β := List Nat) (ys := nmV sts) (dd := fun l => Dd.s (S l)) (kd := kdI (tgK (nmV sts) tg)) (d0 := .U (tsD (nmV sts))) (ef_names (ef_var (i := 0) rfl (hs.mono s1.g)) few) (fun Hx v h => ?_) (kdI_ok _ _) (fun m hm v G2 H e1 e2 hv => ?_)) efaT_nil) rf_tupN) s1.v (t0.step s1) rfl fun v' G2 A2 x1 x2 x3 hv' => hk v' G2 A2 (s1.g.trans x1) x2 x3 hv'
  · obtain ⟨p, us, rfl, h1, h2⟩ := h
    exact ⟨p, us, rfl, .inr h1, h2⟩
  · obtain rfl : v = V.str (S m) := hv
    refine er_op (K := K) (d1 := dicD (kvP (nmV sts) tg)) (d2 := .s (S m)) (er_var rfl (hd.mono (e1.trans e2))) (er_v rfl) (ro_ixK (price_at hp.nd (by rw [StN.nl]; exact hl) hm)) H (Ex.refl H) _ fun v' H2 e5 hv' => ⟨e5, fun H3 e6 => ?_⟩
    have := dp_of (K := K) (H := H3) (d := Dd.i (tgK (nmV sts) tg m)) (by rfl) (hv'.mono e6)
    exact this
theorem has_price_order {C CB CS CU CC p fN c Pt : Addr} {fdN : FuncData} (T : Txt K mg) (TS : StTxt K mg C) (TB : BpTxt K mg CB CS CU CC) (TBc : LamX.TabB base mg c Pt) (hc : CodeAt K mg "price_order" c) (h : At K mg "price_order" s_price_order ["stock", "prices"]) (C_prices_by_name : Has P w K mg base 3 "prices_by_name" ["stock", "prices"] (sp_pb K C)) (P_names : PropOf K C "names" p fN) (F_names : FnOk P w K mg base CX0 1 fN fdN ["self"] (sp_nmF K C)) (b_names : Binds K fdN ["self"] []) : Has P w K mg base 4 "price_order" ["stock", "prices"] (sp_po K C Pt) :=
  h.hasTC hc sc_price_order (fun _ => rfl) (po_body T TS TB TBc C_prices_by_name P_names F_names b_names)
theorem hasD_price_order {C CB CS CU CC p fN c Pt : Addr} {fdN : FuncData} (T : Txt K mg) (TS : StTxt K mg C) (TB : BpTxt K mg CB CS CU CC) (TBc : LamX.TabB base mg c Pt) (hc : CodeAt K mg "price_order" c) (h : At K mg "price_order" s_price_order ["stock", "prices"]) (C_prices_by_name : Has P w K mg base 3 "prices_by_name" ["stock", "prices"] (sp_pb K C)) (P_names : PropOf K C "names" p fN) (F_names : FnOk P w K mg base CX0 1 fN fdN ["self"] (sp_nmF K C)) (b_names : Binds K fdN ["self"] []) : HasD P w K mg base 4 "price_order" ["stock", "prices"] (sp_po K C Pt) := by
  obtain ⟨f, fd, hm, F, _, _⟩ := h.ex
  have kp := F.kp
  obtain ⟨oc, od, kV, doc, pm, an, cdv, ct, osl, rfl, lk, hcd⟩ := F.ex
  have ec : cdv = .ref c := hc f _ _ hm lk rfl
  subst ec
  refine ⟨f, _, hm, kp, fn_of (CX := CX0) lk hcd sc_price_order (fun vs H Q E hsp => ?_) (fun Ar outer s A vs Q E hr hsp => ?_), fun s ws hl => match ws, hl with | [_, _], _ => .of_eq rfl⟩
  · obtain ⟨a, G, _, _, _, hv, _⟩ := hsp
    rw [← hv.len]
    rfl
  · obtain ⟨a, G, hp, hA, t0, hv, hk⟩ := hsp
    obtain ⟨t, h1, h2⟩ := po_body T TS TB TBc C_prices_by_name P_names F_names b_names f Ar outer s G A a vs Q E hr hp hA t0 hv hk
    exact ⟨t, h1.nox, h2⟩
abbrev spX_po (K : PySem.W.Frag) (C CB : Addr) : Sp := spX K (fun a : PrB => StN a.1.2 ∧ a.2.2.length ≠ a.1.2.length) (fun a => [stockC K C (a.1.1 : Int) a.1.2, tgD a.2.1 a.2.2]) (fun _ => false) (fun _ => .v .non) (fun _ => bpEr CB)
theorem hasX_price_order {C CB CS CU CC p fN c Pt : Addr} {fdN : FuncData} (T : Txt K mg) (TS : StTxt K mg C) (TB : BpTxt K mg CB CS CU CC) (TBc : LamX.TabB base mg c Pt) (hc : CodeAt K mg "price_order" c) (h : At K mg "price_order" s_price_order ["stock", "prices"]) (X_prices_by_name : HasX P w K mg base 3 "prices_by_name" ["stock", "prices"] (spX_pb K C CB)) (P_names : PropOf K C "names" p fN) (F_names : FnOk P w K mg base CX0 1 fN fdN ["self"] (sp_nmF K C)) (b_names : Binds K fdN ["self"] []) : HasX P w K mg base 4 "price_order" ["stock", "prices"] (spX_po K C CB) := by
  refine h.hasXC hc sc_price_order (fun vs H Q E ⟨a, _, hv, _⟩ => by rw [← hv.len]; rfl) fun f A outer s H vs Q E hr hsp => ?_
  obtain ⟨⟨⟨n, sts⟩, b, tg⟩, ⟨hp, hl⟩, hv, _, hx⟩ := hsp
  replace hp : StN sts := hp
  replace hl : tg.length ≠ sts.length := hl
  rcases hv with _ | ⟨hs, _ | ⟨hy, _ | _⟩⟩
  rename_i x y
  replace hs : Is K H (stockC K C (n : Int) sts) x := hs
  replace hy : Is K H (tgD b tg) y := hy
  have sc := sc_price_order
  refine ⟨_, (pss_cons (ps_set (i := 2) sc.nd rfl (Or.inr rfl) (pe_callX X_prices_by_name (L2N.takes_of rfl rfl rfl rfl) (hr.mono (by decide)) (pa_cons (pv 0) (pa_cons (pv 1) pa_nil))))
    (pss_one (ps_ret (pe_callTy (cr_tuple_k (K := K)) (by rfl) T.b_tuple (by decide +kernel) (pa_cons (pe_sortLC (c := c) (P := Pt) (pn := "name") (fr := ["price_of"]) (js := [2]) (N := ["name", "price_of"]) (k := 0) (hr.mono (by decide)) (by rfl) T.b_sorted (pa_cons (pe_prop (pv 0) TS.cl P_names F_names (hr.mono (by decide)) b_names .nil pass0 rfl) pa_nil) TBc rfl (NdefX.nscope_by (by decide +kernel)) po_free (by decide +kernel) rfl (fun _ _ _ us hl => match us, hl with | [_], _ => rfl) (fun _ _ _ _ _ _ hr => (pe_ix ix_dK (pv 1) (pv 0) (fun _ _ => rfl)))) pa_nil))))), ?_⟩
  exact x_no (K := K) (((n, sts), b, tg) : PrB) (era_cons (er_var (i := 0) rfl hs) (era_cons (er_var (i := 1) rfl hy) era_nil)) rfl hp (decide_eq_false hl) fun cls d H' e her => hx rfl cls d H' e her
end
end Mi

set_option maxHeartbeats 4000000
namespace Mi
open PySem PySem.Spec PyProof.Rows L2 Evl
local macro_rules | `(tactic| walk_at "side") => `(tactic| (first | assumption | omega | exact rfl | decide | (simp only [List.length_cons, List.length_nil, List.length_map, List.length_append, List.length_replicate] <;> omega)))
local macro_rules | `(tactic| walk_at "ro") => `(tactic| (first
  | with_reducible exact ro_I0
  | with_reducible exact ro_1018
  | with_reducible exact ro_neC
  | with_reducible exact ro_eqC
  | with_reducible exact ro_neI
  | with_reducible exact ro_eqI
  | with_reducible exact ro_neB
  | with_reducible exact ro_eqB
  | ((with_reducible apply ro_mod); (walk_at "side"))
  | ((with_reducible apply ro_div) <;> (walk_at "side"))
  | ((with_reducible apply ro_divW) <;> (walk_at "side"))
  | with_reducible exact ro_1012
  | with_reducible exact ro_1015
  | ((with_reducible apply ro_mulL) <;> (walk_at "side"))
  | ((with_reducible apply ro_mulR) <;> (walk_at "side"))
  | ((with_reducible apply ro_addC); (walk_at "side"))
  | ((with_reducible apply ro_ixC) <;> (walk_at "side"))
  | ((with_reducible apply ro_ixI) <;> (walk_at "side"))
  | ((with_reducible apply ro_ixIN) <;> (walk_at "side"))
  | ((with_reducible apply ro_ixT2) <;> (walk_at "side"))
  | ((with_reducible apply ro_ixG) <;> (walk_at "side"))
  | ((with_reducible apply ro_eq); exact rfl)
  | ((with_reducible apply ro_ne); exact rfl)
  | with_reducible exact ro_isN
  | with_reducible exact ro_notN
  | with_reducible exact ro_eqL
  | with_reducible exact ro_neL
  | with_reducible exact ro_eqU
  | ((with_reducible apply ro_cat); (walk_at "side"))
  | with_reducible exact ro_inLi
  | with_reducible exact ro_inNi
  | with_reducible exact ro_inUi
  | ((with_reducible apply ro_inL) <;> (walk_at "side"))
  | ((with_reducible apply ro_inN) <;> (walk_at "side"))
  | ((with_reducible apply ro_inU) <;> (walk_at "side"))))
local macro_rules | `(tactic| walk_at "rc") => `(tactic| (first
  | with_reducible exact rc_int
  | with_reducible exact rc_intB
  | with_reducible exact rc_max2
  | ((with_reducible apply rc_lenC); (walk_at "side"))
  | with_reducible exact rc_lenI
  | with_reducible exact rc_lenT
  | with_reducible exact rc_lenIN
  | with_reducible exact rc_lenTN
  | with_reducible exact rc_lenL
  | with_reducible exact rc_lenN
  | with_reducible exact rc_lenU
  | with_reducible exact rc_listL
  | with_reducible exact rc_listU
  | with_reducible exact rc_tupL
  | with_reducible exact rc_tupN
  | ((with_reducible apply rc_isi_int); decide +kernel)
  | ((with_reducible apply rc_isi_str); decide +kernel)
  | ((with_reducible apply rc_isi_bl); decide +kernel)
  | ((with_reducible apply rc_isi_non); decide +kernel)
  | ((with_reducible apply rc_isi_u); decide +kernel)
  | ((with_reducible apply rc_isi_l); decide +kernel)))
local macro_rules | `(tactic| walk_at "er") => `(tactic| (first
  | ((with_reducible apply er_var); (exact rfl); assumption)
  | ((with_reducible apply er_v); exact rfl)
  | with_reducible exact er_c
  | ((with_reducible apply er_pick); (walk_at "er"); (walk_at "er"); (walk_at "er"))
  | ((with_reducible apply er_op); (walk_at "er"); (walk_at "er"); (walk_at "ro"))
  | ((with_reducible apply er_cb); (walk_at "era"); (walk_at "rc"))
  | ((with_reducible apply er_lst'); (walk_at "era"); (exact rfl); (walk_at "side"))
  | ((with_reducible apply er_tup'); (walk_at "era"); (exact rfl); (walk_at "side"))
  | ((with_reducible apply er_notV); (walk_at "er"))
  | ((with_reducible apply er_andV); (walk_at "er"); (intro _; (walk_at "er")))
  | ((with_reducible apply er_orV); (walk_at "er"); (intro _; (walk_at "er")))
  | ((with_reducible apply er_ite); (walk_at "et"); (intro _; (walk_at "er")); (intro _; (walk_at "er")))))
local macro_rules | `(tactic| walk_at "era") => `(tactic| (first
  | with_reducible exact era_nil
  | ((with_reducible apply era_cons); (walk_at "er"); (walk_at "era"))))
local macro_rules | `(tactic| walk_at "et") => `(tactic| (first
  | ((with_reducible apply et_an); (walk_at "et"); (intro _; (walk_at "et")))
  | ((with_reducible apply et_orr); (walk_at "et"); (intro _; (walk_at "et")))
  | ((with_reducible apply et_nt); (walk_at "et"))
  | ((with_reducible apply et1); (walk_at "er"))
  | ((with_reducible apply et2); (walk_at "er"))))

section
variable {K : PySem.W.Frag} {σ : L2.St} {H : Hp} {te : TE}
theorem er_isE0 {a D : Addr} {cls : Value} {d : Option Addr} {c : V} {b : Bool} (cv : Value) (he : Er K te σ H (.v (.ref a))) {tc : TE} (hc : Er K tc σ H (.v c)) (e1 : cls = .ref D) (e2 : d = none) (C : ExcC K D) (hcv : ∀ u, RelV c u → u = cv) (hk : PySem.W.kitOne K (.ref D) cv = some b) :
    Er K (tCB (rIsE0 K a cls d) (tCons te (tCons tc tNil))) σ H (.b b) := fun H1 e Q q =>
  he H1 e _ fun v H2 x2 z => hc H2 (e.trans x2) _ fun u H3 x3 z2 => by
    obtain rfl : v = .ref a := z
    obtain rfl : u = c := z2
    exact ⟨_, cv, b, D, rfl, e1, e2, C, hcv, hk, q _ H3 (x2.trans x3) rfl⟩
theorem er_isET {a D c1 c2 : Addr} {cls : Value} {d : Option Addr} {b : Bool} (he : Er K te σ H (.v (.ref a))) (e1 : cls = .ref D) (e2 : d = none) (C : ExcC K D) (hk : PySem.W.kitAny K (.ref D) [.ref c1, .ref c2] = some b) :
    Er K (tCB (rIsET K a cls d) (tCons te (tCons (tTup (tCons (tC (.ref c1)) (tCons (tC (.ref c2)) tNil))) tNil))) σ H (.b b) := fun H1 e Q q =>
  he H1 e _ fun v H2 x2 z => by
    obtain rfl : v = .ref a := z
    exact ⟨sz_of (by simp), fun p hp => ⟨p, c1, c2, b, D, rfl, upd_same, e1, e2, C, hk, q _ _ (x2.trans (Ex.new hp)) rfl⟩⟩
end
section
variable {P : Program} {w : World} {K : PySem.W.Frag} {mg : Str → Option Value} {base : Heap}
abbrev s__law_cost_refused : Stmt := topS 42
theorem sc__law_cost_refused : FnScope ["shop", "wrong", "line", "e"] ["shop", "wrong", "line"] (defScope s__law_cost_refused) := ⟨rfl, rfl, rfl, by decide +kernel, rfl, by decide +kernel, by decide +kernel⟩

abbrev sp__law_cost_refused (K : PySem.W.Frag) (C : Addr) : Sp := spR K (fun a : RcA => (StN a.1.2 ∧ a.2.2.2.length ≤ 1000) ∧ a.2.1.2.length ≠ a.1.2.length) (fun a => [stockC K C (a.1.1 : Int) a.1.2, tgD a.2.1.1 a.2.1.2, sq5 a.2.2.1 (tsD a.2.2.2)]) fun _ => .b true
theorem has__law_cost_refused {C CB CS CU CC : Addr} (T : Txt K mg) (TB : BpTxt K mg CB CS CU CC) (h : At K mg "_law_cost_refused" s__law_cost_refused ["shop", "wrong", "line"]) (X_row_cost : HasX P w K mg base 4 "row_cost" ["stock", "prices", "row"] (spX_rc K C CB CU)) : Has P w K mg base 5 "_law_cost_refused" ["shop", "wrong", "line"] (sp__law_cost_refused K C) := by
  refine h.hasR sc__law_cost_refused (fun _ => rfl) fun f cdv A outer s H a vs Q E hr hp hv hk => ?_
  obtain ⟨⟨n, sts⟩, ⟨b, tg⟩, b2, r⟩ := a
  obtain ⟨hp, hl⟩ := hp
  replace hl : tg.length ≠ sts.length := hl
  rcases hv with _ | ⟨hs, _ | ⟨hx, _ | ⟨hy, _ | _⟩⟩⟩
  rename_i x y z
  replace hs : Is K H (stockC K C (n : Int) sts) x := hs
  replace hx : Is K H (tgD b tg) y := hx
  replace hy : Is K H (sq5 b2 (tsD r)) z := hy
  have sc := sc__law_cost_refused
  refine ⟨_, (pss_cons (L2N.ps_try_as (i := 3) (Wout := fun _ _ _ _ => False) rfl rfl sc.nd rfl rfl ⟨rfl, by decide, Or.inl TB.gS⟩ takes0N (fun W pn xe tk _ => (pss_one (ps_expr (pe_callX X_row_cost tk (hr.mono (by decide)) (pa_cons (pv 0) (pa_cons (pv 1) (pa_cons (pv 2) pa_nil))))))) (fun a oe cls d pn hz hf => (pss_one (ps_ret (pe_and (pe_callB (call_isE0 (K := K) hz.zc hf) (by rfl) T.b_isinstance (by decide +kernel) (pa_cons (pv 3) (pa_cons (pe_glob (v := .ref CB) rfl TB.gP rfl) pa_nil))) (pe_and (pe_callB (call_isE0 (K := K) hz.zc hf) (by rfl) T.b_isinstance (by decide +kernel) (pa_cons (pv 3) (pa_cons (pe_bltn (v := .ty "ValueError") (by rfl) TB.bV (by decide +kernel) rfl) pa_nil))) (pe_one (pe_not (pe_callB (call_isET (K := K) hz.zc hf) (by rfl) T.b_isinstance (by decide +kernel) (pa_cons (pv 3) (pa_cons (pe_tup (pa_cons (pe_glob (v := .ref CU) rfl TB.gU rfl) (pa_cons (pe_glob (v := .ref CC) rfl TB.gC rfl) pa_nil))) pa_nil)))))))))))
    (pss_one (ps_ret pe_bl))), ?_⟩
  refine x_drop (K := K) (((n, sts), (b, tg), b2, r) : RcA) (era_cons (er_var rfl hs) (era_cons (er_var rfl hx) (era_cons (er_var rfl hy) era_nil))) rfl hp (fun ho H1 e1 => ?_) fun ho cls d H1 e1 her => ?_
  · exact absurd ho (by show ¬ (decide (tg.length = sts.length) && _) = true; rw [decide_eq_false hl]; simp)
  have her : (if tg.length = sts.length then unEr CU (badN sts r) else bpEr CB) cls d H1 := her
  rw [if_neg hl] at her
  obtain ⟨rfl, rfl⟩ := her
  refine ⟨true, TB.ems, fun _ ax hax => ?_, fun z => by cases z⟩
  exact a_rete (K := K) (d := .b (true && (true && !false))) (er_andV (er_isE0 (.ref CB) (er_v rfl) er_c rfl rfl TB.ex (fun u r => r) TB.kP1) fun _ => er_andV (er_isE0 (.type "ValueError") (er_v rfl) er_c rfl rfl TB.ex (fun u r => r) TB.kV) fun _ => er_notV (er_isET (er_v rfl) rfl rfl TB.ex TB.kUC)) rfl e1 hk
abbrev s__law_order_refused : Stmt := topS 43
theorem sc__law_order_refused : FnScope ["shop", "wrong", "e"] ["shop", "wrong"] (defScope s__law_order_refused) := ⟨rfl, rfl, rfl, by decide +kernel, rfl, by decide +kernel, by decide +kernel⟩

abbrev sp__law_order_refused (K : PySem.W.Frag) (C : Addr) : Sp := spR K (fun a : PrB => StN a.1.2 ∧ a.2.2.length ≠ a.1.2.length) (fun a => [stockC K C (a.1.1 : Int) a.1.2, tgD a.2.1 a.2.2]) fun _ => .b true
theorem has__law_order_refused {C CB CS CU CC : Addr} (T : Txt K mg) (TB : BpTxt K mg CB CS CU CC) (h : At K mg "_law_order_refused" s__law_order_refused ["shop", "wrong"]) (X_price_order : HasX P w K mg base 4 "price_order" ["stock", "prices"] (spX_po K C CB)) : Has P w K mg base 5 "_law_order_refused" ["shop", "wrong"] (sp__law_order_refused K C) := by
  refine h.hasR sc__law_order_refused (fun _ => rfl) fun f cdv A outer s H a vs Q E hr hp hv hk => ?_
  obtain ⟨⟨n, sts⟩, b, tg⟩ := a
  rcases hv with _ | ⟨hs, _ | ⟨hx, _ | _⟩⟩
  rename_i x y
  replace hs : Is K H (stockC K C (n : Int) sts) x := hs
  replace hx : Is K H (tgD b tg) y := hx
  have sc := sc__law_order_refused
  refine ⟨_, (pss_cons (L2N.ps_try_as (i := 2) (Wout := fun _ _ _ _ => False) rfl rfl sc.nd rfl rfl ⟨rfl, by decide, Or.inl TB.gS⟩ takes0N (fun W pn xe tk _ => (pss_one (ps_expr (pe_callX X_price_order tk (hr.mono (by decide)) (pa_cons (pv 0) (pa_cons (pv 1) pa_nil)))))) (fun a oe cls d pn hz hf => (pss_one (ps_ret (pe_and (pe_callB (call_isE0 (K := K) hz.zc hf) (by rfl) T.b_isinstance (by decide +kernel) (pa_cons (pv 2) (pa_cons (pe_glob (v := .ref CB) rfl TB.gP rfl) pa_nil))) (pe_and (pe_callB (call_isE0 (K := K) hz.zc hf) (by rfl) T.b_isinstance (by decide +kernel) (pa_cons (pv 2) (pa_cons (pe_bltn (v := .ty "ValueError") (by rfl) TB.bV (by decide +kernel) rfl) pa_nil))) (pe_one (pe_not (pe_callB (call_isET (K := K) hz.zc hf) (by rfl) T.b_isinstance (by decide +kernel) (pa_cons (pv 2) (pa_cons (pe_tup (pa_cons (pe_glob (v := .ref CU) rfl TB.gU rfl) (pa_cons (pe_glob (v := .ref CC) rfl TB.gC rfl) pa_nil))) pa_nil)))))))))))
    (pss_one (ps_ret pe_bl))), ?_⟩
  refine x_drop (K := K) (((n, sts), b, tg) : PrB) (era_cons (er_var rfl hs) (era_cons (er_var rfl hx) era_nil)) rfl hp (fun ho H1 e1 => by cases ho) fun ho cls d H1 e1 her => ?_
  obtain ⟨rfl, rfl⟩ := her
  refine ⟨true, TB.ems, fun _ ax hax => ?_, fun z => by cases z⟩
  exact a_rete (K := K) (d := .b (true && (true && !false))) (er_andV (er_isE0 (.ref CB) (er_v rfl) er_c rfl rfl TB.ex (fun u r => r) TB.kP1) fun _ => er_andV (er_isE0 (.type "ValueError") (er_v rfl) er_c rfl rfl TB.ex (fun u r => r) TB.kV) fun _ => er_notV (er_isET (er_v rfl) rfl rfl TB.ex TB.kUC)) rfl e1 hk
abbrev s__law_unknown : Stmt := topS 44
theorem sc__law_unknown : FnScope ["shop", "tags", "line", "due", "e"] ["shop", "tags", "line", "due"] (defScope s__law_unknown) := ⟨rfl, rfl, rfl, by decide +kernel, rfl, by decide +kernel, by decide +kernel⟩

abbrev sp__law_unknown (K : PySem.W.Frag) (C : Addr) : Sp := spR K (fun a : RcA => (StN a.1.2 ∧ a.2.2.2.length ≤ 1000) ∧ a.2.1.2.length = a.1.2.length ∧ okN a.1.2 a.2.2.2 = false) (fun a => [stockC K C (a.1.1 : Int) a.1.2, tgD a.2.1.1 a.2.1.2, sq5 a.2.2.1 (tsD a.2.2.2), .s (S (badN a.1.2 a.2.2.2))]) fun _ => .b true
theorem has__law_unknown {C CB CS CU CC fU CT CB5 CS5 : Addr} (T : Txt K mg) (TB : BpTxt K mg CB CS CU CC) (TU : UnTxt K mg CU fU CS5 CT CB5) (h : At K mg "_law_unknown" s__law_unknown ["shop", "tags", "line", "due"]) (X_row_cost : HasX P w K mg base 4 "row_cost" ["stock", "prices", "row"] (spX_rc K C CB CU)) : Has P w K mg base 5 "_law_unknown" ["shop", "tags", "line", "due"] (sp__law_unknown K C) := by
  refine h.hasR sc__law_unknown (fun _ => rfl) fun f cdv A outer s H a vs Q E hr hp hv hk => ?_
  obtain ⟨⟨n, sts⟩, ⟨b, tg⟩, b2, r⟩ := a
  obtain ⟨hp, hl, hno⟩ := hp
  replace hl : tg.length = sts.length := hl
  replace hno : okN sts r = false := hno
  rcases hv with _ | ⟨hs, _ | ⟨hx, _ | ⟨hy, _ | ⟨rfl, _ | _⟩⟩⟩⟩
  rename_i x y z
  replace hs : Is K H (stockC K C (n : Int) sts) x := hs
  replace hx : Is K H (tgD b tg) y := hx
  replace hy : Is K H (sq5 b2 (tsD r)) z := hy
  have sc := sc__law_unknown
  refine ⟨_, (pss_cons (L2N.ps_try_as1 (i := 4) rfl rfl sc.nd rfl rfl ⟨rfl, by decide, Or.inl TB.gU⟩ (fun W pn xe tk _ => (pss_one (ps_expr (pe_callX X_row_cost tk (hr.mono (by decide)) (pa_cons (pv 0) (pa_cons (pv 1) (pa_cons (pv 2) pa_nil))))))) (fun a oe cls d pn hz hf => (pss_one (ps_ret (pe_and (pe_callB (call_isX_k (K := K) hz.zc hf) (by rfl) T.b_isinstance (by decide +kernel) (pa_cons (pv 4) (pa_cons (pe_glob (v := .ref CS) rfl TB.gS rfl) pa_nil))) (pe_and (pe_not (pe_callB (call_isX_k (K := K) hz.zc hf) (by rfl) T.b_isinstance (by decide +kernel) (pa_cons (pv 4) (pa_cons (pe_glob (v := .ref CB) rfl TB.gP rfl) pa_nil)))) (pe_and (pe_callB (cr_isi_k (K := K)) (by rfl) T.b_isinstance (by decide +kernel) (pa_cons (pe_xf TU.xf TU.nr hz.zc hf (pv 4)) (pa_cons (pe_bltn (v := .ty "str") (by rfl) T.b_str (by decide +kernel) rfl) pa_nil))) (pe_one (pe_cmpR op_eq (pe_xf TU.xf TU.nr hz.zc hf (pv 4)) (pv 3) (nomark _))))))))))
    (pss_one (ps_ret pe_bl))), ?_⟩
  refine x_drop (K := K) (((n, sts), (b, tg), b2, r) : RcA) (era_cons (er_var rfl hs) (era_cons (er_var rfl hx) (era_cons (er_var rfl hy) era_nil))) rfl hp (fun ho H1 e1 => ?_) fun ho cls d H1 e1 her => ?_
  · exact absurd ho (by show ¬ (_ && okN sts r) = true; rw [hno]; simp)
  have her : (if tg.length = sts.length then unEr CU (badN sts r) else bpEr CB) cls d H1 := her
  rw [if_pos hl] at her
  obtain ⟨rfl, dd, rfl, hdd⟩ := her
  refine ⟨true, TU.em, fun _ ax hax => ?_, fun z => by cases z⟩
  have nm : ∀ {σ : L2.St} {H2 : Hp}, Ex H1 H2 → σ[4]? = some (some (.ref ax)) → Er K (tXf ax (.ref CU) (some dd) CU "name" (tVar 4)) σ H2 (.s (S (badN sts r))) := fun e q => er_xf (dv := .s (S (badN sts r))) (er_v q) rfl rfl (e dd _ hdd) (by simp [List.lookup]) rfl
  refine a_rete (K := K) (d := .b (true && (!false && (true && decide (badN sts r = badN sts r))))) (er_andV (er_isX (.ref CS) (er_v rfl) er_c rfl rfl hdd TU.xd (fun u r => r) TB.uS) fun _ => er_andV (er_notV (er_isX (.ref CB) (er_v rfl) er_c rfl rfl hdd TU.xd (fun u r => r) TB.uP)) fun _ => er_andV (er_cb (era_cons (nm (Ex.refl _) rfl) (era_cons er_c era_nil)) (rc_isi_str (b := true) (by decide +kernel))) fun _ => er_op (nm (Ex.refl _) rfl) (er_v rfl) ro_eqC) ?_ e1 hk
  rw [decide_eq_true rfl]
  rfl
end
end Mi

set_option maxHeartbeats 4000000
namespace Mi
open PySem PySem.Spec PyProof.Rows L2 Evl
local macro_rules | `(tactic| walk_at "side") => `(tactic| (first | assumption | omega | exact rfl | decide | (simp only [List.length_cons, List.length_nil, List.length_map, List.length_append, List.length_replicate] <;> omega)))
local macro_rules | `(tactic| walk_at "ro") => `(tactic| (first
  | with_reducible exact ro_I0
  | with_reducible exact ro_1018
  | with_reducible exact ro_neC
  | with_reducible exact ro_eqC
  | with_reducible exact ro_neI
  | with_reducible exact ro_eqI
  | with_reducible exact ro_neB
  | with_reducible exact ro_eqB
  | ((with_reducible apply ro_mod); (walk_at "side"))
  | ((with_reducible apply ro_div) <;> (walk_at "side"))
  | ((with_reducible apply ro_divW) <;> (walk_at "side"))
  | with_reducible exact ro_1012
  | with_reducible exact ro_1015
  | ((with_reducible apply ro_mulL) <;> (walk_at "side"))
  | ((with_reducible apply ro_mulR) <;> (walk_at "side"))
  | ((with_reducible apply ro_addC); (walk_at "side"))
  | ((with_reducible apply ro_ixC) <;> (walk_at "side"))
  | ((with_reducible apply ro_ixI) <;> (walk_at "side"))
  | ((with_reducible apply ro_ixIN) <;> (walk_at "side"))
  | ((with_reducible apply ro_ixT2) <;> (walk_at "side"))
  | ((with_reducible apply ro_ixG) <;> (walk_at "side"))
  | ((with_reducible apply ro_eq); exact rfl)
  | ((with_reducible apply ro_ne); exact rfl)
  | with_reducible exact ro_isN
  | with_reducible exact ro_notN
  | with_reducible exact ro_eqL
  | with_reducible exact ro_neL
  | with_reducible exact ro_eqU
  | ((with_reducible apply ro_cat); (walk_at "side"))
  | with_reducible exact ro_inLi
  | with_reducible exact ro_inNi
  | with_reducible exact ro_inUi
  | ((with_reducible apply ro_inL) <;> (walk_at "side"))
  | ((with_reducible apply ro_inN) <;> (walk_at "side"))
  | ((with_reducible apply ro_inU) <;> (walk_at "side"))))
local macro_rules | `(tactic| walk_at "rc") => `(tactic| (first
  | with_reducible exact rc_int
  | with_reducible exact rc_intB
  | with_reducible exact rc_max2
  | ((with_reducible apply rc_lenC); (walk_at "side"))
  | with_reducible exact rc_lenI
  | with_reducible exact rc_lenT
  | with_reducible exact rc_lenIN
  | with_reducible exact rc_lenTN
  | with_reducible exact rc_lenL
  | with_reducible exact rc_lenN
  | with_reducible exact rc_lenU
  | with_reducible exact rc_listL
  | with_reducible exact rc_listU
  | with_reducible exact rc_tupL
  | with_reducible exact rc_tupN
  | ((with_reducible apply rc_isi_int); decide +kernel)
  | ((with_reducible apply rc_isi_str); decide +kernel)
  | ((with_reducible apply rc_isi_bl); decide +kernel)
  | ((with_reducible apply rc_isi_non); decide +kernel)
  | ((with_reducible apply rc_isi_u); decide +kernel)
  | ((with_reducible apply rc_isi_l); decide +kernel)))
local macro_rules | `(tactic| walk_at "er") => `(tactic| (first
  | ((with_reducible apply er_var); (exact rfl); assumption)
  | ((with_reducible apply er_v); exact rfl)
  | with_reducible exact er_c
  | ((with_reducible apply er_pick); (walk_at "er"); (walk_at "er"); (walk_at "er"))
  | ((with_reducible apply er_op); (walk_at "er"); (walk_at "er"); (walk_at "ro"))
  | ((with_reducible apply er_cb); (walk_at "era"); (walk_at "rc"))
  | ((with_reducible apply er_lst'); (walk_at "era"); (exact rfl); (walk_at "side"))
  | ((with_reducible apply er_tup'); (walk_at "era"); (exact rfl); (walk_at "side"))
  | ((with_reducible apply er_notV); (walk_at "er"))
  | ((with_reducible apply er_andV); (walk_at "er"); (intro _; (walk_at "er")))
  | ((with_reducible apply er_orV); (walk_at "er"); (intro _; (walk_at "er")))
  | ((with_reducible apply er_ite); (walk_at "et"); (intro _; (walk_at "er")); (intro _; (walk_at "er")))))
local macro_rules | `(tactic| walk_at "era") => `(tactic| (first
  | with_reducible exact era_nil
  | ((with_reducible apply era_cons); (walk_at "er"); (walk_at "era"))))
local macro_rules | `(tactic| walk_at "et") => `(tactic| (first
  | ((with_reducible apply et_an); (walk_at "et"); (intro _; (walk_at "et")))
  | ((with_reducible apply et_orr); (walk_at "et"); (intro _; (walk_at "et")))
  | ((with_reducible apply et_nt); (walk_at "et"))
  | ((with_reducible apply et1); (walk_at "er"))
  | ((with_reducible apply et2); (walk_at "er"))))

/-! ### all but the table -/
def hide (P : Addr) (H : Hp) : Hp := fun b => if b = P then none else H b
section
variable {K : PySem.W.Frag} {P : Addr} {q : Str} {H : Hp}
theorem hide_ex : Ex (hide P H) H := fun b o e => by
  unfold hide at e
  split at e
  · cases e
  · exact e
theorem hide_at (hT : LamX.TabS H P q) {b : Addr} {o : HO} (h : H b = some o) (ho : ∀ ps, o ≠ .tbl ps) : hide P H b = some o := by
  obtain ⟨ps, hP, _⟩ := hT
  unfold hide
  rw [if_neg fun z => by rw [z, hP] at h; exact ho ps (Option.some.inj h).symm]
  exact h
theorem hide_tb (hT : LamX.TabS H P q) : Tb P q (hide P H) H := ⟨if_pos rfl, hT⟩
theorem hide_of {G : Hp} (hG : G P = none) (e : Ex G H) : Ex G (hide P H) := fun b o h => by
  unfold hide
  rw [if_neg fun z => by rw [z, hG] at h; cases h]
  exact e b o h
theorem sqL_hide (hT : LamX.TabS H P q) {a : Addr} {xs : List V} (h : SqL K H a xs) : SqL K (hide P H) a xs := by
  rcases h with (h | ⟨o, h⟩) | h
  · exact .inl (.inl (hide_at hT h fun _ z => by cases z))
  · exact .inl (.inr ⟨o, hide_at hT h fun _ z => by cases z⟩)
  · exact .inr h
theorem sqT_hide (hT : LamX.TabS H P q) {a : Addr} {xs : List V} (h : SqT K H a xs) : SqT K (hide P H) a xs := by
  rcases h with (h | ⟨o, h⟩) | h
  · exact .inl (.inl (hide_at hT h fun _ z => by cases z))
  · exact .inl (.inr ⟨o, hide_at hT h fun _ z => by cases z⟩)
  · exact .inr h
def Hid (K : PySem.W.Frag) (P : Addr) (H : Hp) (d : Dd) : Prop := ∀ v, Is K H d v → Is K (hide P H) d v
theorem Hid.v {x : V} : Hid K P H (.v x) := fun _ h => h
theorem Hid.l (hT : LamX.TabS H P q) {xs : List V} : Hid K P H (.l xs) := fun v ⟨p, e, h⟩ => ⟨p, e, sqL_hide hT h⟩
theorem isE_hide : ∀ {ds : List Dd} {vs : List V}, (∀ d ∈ ds, Hid K P H d) → IsE K H ds vs → IsE K (hide P H) ds vs
  | [], _, _, h => h
  | d :: r, _, hd, ⟨x, t, e, h1, h2⟩ => ⟨x, t, e, hd d List.mem_cons_self x h1, isE_hide (fun d' h' => hd d' (List.mem_cons_of_mem _ h')) h2⟩
theorem Hid.L (hT : LamX.TabS H P q) {ds : List Dd} (hd : ∀ d ∈ ds, Hid K P H d) : Hid K P H (.L ds) := fun v ⟨p, vs, e, h, hE⟩ => ⟨p, vs, e, sqL_hide hT h, isE_hide hd hE⟩
theorem Hid.N (hT : LamX.TabS H P q) {ds : List Dd} (hd : ∀ d ∈ ds, Hid K P H d) : Hid K P H (.N ds) := fun v ⟨p, vs, e, h, hE⟩ => ⟨p, vs, e, hide_at hT h (fun _ z => by cases z), isE_hide hd hE⟩
theorem Hid.U (hT : LamX.TabS H P q) {ds : List Dd} (hd : ∀ d ∈ ds, Hid K P H d) : Hid K P H (.U ds) := fun v ⟨p, vs, e, h, hE⟩ => ⟨p, vs, e, sqT_hide hT h, isE_hide hd hE⟩
theorem Hid.stock (hT : LamX.TabS H P q) {C : Addr} {n : Int} {sts : List (List Nat × List Nat)} : Hid K P H (stockC K C n sts) := fun v h => by
  obtain ⟨x, dx, ps, dd, rfl, h1, h2, h3⟩ := h
  refine ⟨x, dx, ps, dd, rfl, hide_at hT h1 (fun _ z => by cases z), ?_, hide_at hT h3 fun _ z => by cases z⟩
  refine Hid.U hT (fun d hd => ?_) _ h2
  obtain ⟨p, _, rfl⟩ := List.mem_map.mp hd
  refine Hid.U hT fun d hd => ?_
  simp only [List.mem_cons, List.not_mem_nil, or_false] at hd
  rcases hd with rfl | rfl <;> exact Hid.v
theorem Hid.n (hT : LamX.TabS H P q) {xs : List V} : Hid K P H (.n xs) := fun v ⟨p, e, h⟩ => ⟨p, e, hide_at hT h fun _ z => by cases z⟩
theorem Hid.u (hT : LamX.TabS H P q) {xs : List V} : Hid K P H (.u xs) := fun v ⟨p, e, h⟩ => ⟨p, e, sqT_hide hT h⟩
theorem Hid.tg (hT : LamX.TabS H P q) {b : Bool} {tg : List Int} : Hid K P H (tgD b tg) := by
  cases b
  · exact Hid.l hT
  · exact Hid.u hT
theorem Hid.s5 (hT : LamX.TabS H P q) {b : Bool} {r : Row} : Hid K P H (sq5 b (tsD r)) := by
  have hd : ∀ d ∈ tsD r, Hid K P H d := fun d hd => by
    obtain ⟨l, _, rfl⟩ := List.mem_map.mp hd
    exact Hid.v
  cases b
  · exact Hid.L hT hd
  · exact Hid.U hT hd
end
theorem gv_L {sts : List (List Nat × List Nat)} (h : sts.length ≤ 1000) : GvOk (.L (stD sts)) sts := by
  obtain ⟨k1, k2, k3⟩ := stD_ok h
  exact ⟨k1, k2, k3⟩
theorem nameOk_okT {l : List Nat} (h : nameOk l = true) : okT l := by
  unfold nameOk at h
  simp only [Bool.and_eq_true] at h
  refine okT_of fun c hc => ?_
  have q := List.all_eq_true.mp h.2.2 c hc
  unfold nameSign at q
  simp only [Bool.or_eq_true, decide_eq_true_eq] at q
  rcases q with q | q
  · simp [letters] at q
    omega
  · simp [digits] at q
    omega
/-! ### small rules for the law -/
section
variable {K : PySem.W.Frag} {σ : L2.St} {G H : Hp} {te tl ta tb : TE} {tr : TA} {t u : TT} {D : Ends} {tz : TS} {P : Addr} {q : Str}
def rSlE (K : PySem.W.Frag) : V → Option Int → Option Int → Hp → VK → Prop := fun x lo hi H Q => rSlL K x lo hi H Q ∨ rSlA K x lo hi H Q
theorem sl_seq_k {X : Cx} {K : PySem.W.Frag} (h : X.K = K := by rfl) : SlR X (rSlE K) := h ▸ SlR.or sl_list sl_tupA
theorem er_slE {b : Bool} {n : Nat} {r : Row} (h : Er K te σ H (sq5 b (tsD r))) (h2 : Er K tb σ H (.i (n : Int))) : Er K (tSl (rSlE K) te (tPart tb) tNoPart) σ H (sq5 b (tsD (r.drop n))) := by
  have ev : ∀ r : Row, (vsl r).drop n = vsl (r.drop n) := fun r => by simp [vsl, vss, List.map_drop]
  have en : cutV (vsl r) (some (n : Int)) none = vsl (r.drop n) := by rw [cutV_from, ev]
  cases b
  · have h' : Er K te σ H (.l (vsl r)) := Er.as h fun _ _ z => Is.L2l (is_cast z (by rw [← tsD_vsl]))
    exact fun H1 e _ q => h' H1 e _ fun v H2 e2 ⟨p, ep, hp⟩ => eo_of h2 H2 (e.trans e2) _ fun H3 e3 => eo_non H3 ((e.trans e2).trans e3) _ fun H4 e4 => by
      subst ep
      refine .inl ⟨p, vsl r, rfl, ex_l (e3.trans e4) hp, fun l hl => q _ _ (((e2.trans e3).trans e4).trans (Ex.new hl)) ?_⟩
      rw [en]
      exact is_cast (Is.l2L ⟨l, rfl, sq_of upd_same⟩) (by rw [tsD_vsl])
  · have h' : Er K te σ H (.u (vsl r)) := Er.as h fun _ _ z => Is.U2u (is_cast z (by rw [← tsD_vsl]))
    exact fun H1 e _ q => h' H1 e _ fun v H2 e2 ⟨p, ep, hp⟩ => eo_of h2 H2 (e.trans e2) _ fun H3 e3 => eo_non H3 ((e.trans e2).trans e3) _ fun H4 e4 => by
      subst ep
      have hp4 := ex_t (e3.trans e4) hp
      refine .inr ⟨p, vsl r, rfl, hp4, fun hw => q _ H4 ((e2.trans e3).trans e4) ?_, fun _ l hl => q _ _ (((e2.trans e3).trans e4).trans (Ex.new hl)) ?_⟩
      · have : cutV (vsl r) (some (n : Int)) none = vsl r := by
          unfold cutV
          rw [hw.1, hw.2, List.drop_zero, Nat.sub_zero, List.take_length]
        rw [en] at this
        exact is_cast (Is.u2U (xs := vsl (r.drop n)) ⟨p, rfl, by rw [this]; exact hp4⟩) (by rw [tsD_vsl])
      · rw [en]
        exact is_cast (Is.u2U (xs := vsl (r.drop n)) ⟨l, rfl, st_of upd_same⟩) (by rw [tsD_vsl])
theorem ro_neUs {xs ys : List (List Nat)} (hx : ∀ l ∈ xs, okT l) (hy : ∀ l ∈ ys, okT l) : Ro K (rNeD K) (.u (vsl xs)) (.u (vsl ys)) (.v (.bl (!decide (xs = ys)))) := by
  rintro _ _ H1 ⟨p, rfl, hp⟩ ⟨p', rfl, hp'⟩ Q q
  refine ⟨_, _, .tup hp (dpAll_strs xs), .tup hp' (dpAll_strs ys), (shaped_strs hx).2, (shaped_strs hy).2, q _ H1 (Ex.refl H1) ?_⟩
  show V.bl (!PyData.eqvAll _ _) = _
  rw [eqv_strs]
theorem rof_of {r : R2} {d1 d2 : Dd} {x : V} (h : Ro K r d1 d2 (.v x)) : Rof K r d1 d2 (.v x) := fun a b G A e h1 h2 Q k =>
  h a b A (h1.mono e) (h2.mono e) Q fun v H2 e2 z => k v G H2 (.on e e2) z
theorem etT_orr {a b : Bool} (h1 : EtT P q t σ G a) (h2 : a = false → EtT P q u σ G b) : EtT P q (tOr t u) σ G (a || b) := fun G1 A e1 e2 t0 Q k =>
  h1 G1 A e1 e2 t0 _ fun G2 A2 x1 x2 x3 => by
    cases a with
    | true => exact k G2 A2 x1 x2 x3
    | false => exact h2 rfl G2 A2 (e1.trans x1) x2 x3 Q fun G3 A3 y1 y2 y3 => k G3 A3 (x1.trans y1) y2 y3
theorem tabS_mut {l : Addr} {us us2 : List V} (h : LamX.TabS H P q) (hl : H l = some (.lst us)) : LamX.TabS (upd H l (.lst us2)) P q := by
  obtain ⟨ps, h1, h2, h3⟩ := h
  refine ⟨ps, ?_, h2, fun pos cv hc => ?_⟩
  · rw [upd_ne fun z => by rw [z, hl] at h1; cases h1]
    exact h1
  · obtain ⟨c, e1, e2⟩ := h3 pos cv hc
    refine ⟨c, e1, ?_⟩
    rw [upd_ne fun z => by rw [z, hl] at e2; cases e2]
    exact e2
/-- x = list(e) -/
theorem a_listNew {i : Nat} {xs : List V} (h : Er K tl σ H (.l xs)) (k : ∀ p H1, H p = none → Ex H H1 → H1 p = some (.lst xs) → tz D (σ.set i (some (.ref p))) H1) : tSeq (tAsg (tCB (rListS K) (tCons tl tNil)) (gName i)) tz D σ H :=
  h H (Ex.refl H) _ fun v H1 e1 ⟨p, ep, hp⟩ => by
    subst ep
    exact ⟨p, xs, rfl, .inl hp, fun l hl => k l _ (ex_out e1 hl) (e1.trans (Ex.new hl)) upd_same⟩
/-- x = e + e', lists -/
theorem a_catNew {i : Nat} {xs zs : List V} (h1 : Er K ta σ H (.n xs)) (h2 : Er K tb σ H (.n zs)) (hz : xs.length + zs.length ≤ 100000) (k : ∀ p H1, H p = none → Ex H H1 → H1 p = some (.lst (xs ++ zs)) → tz D (σ.set i (some (.ref p))) H1) : tSeq (tAsg (tOp rCat ta tb) (gName i)) tz D σ H :=
  h1 H (Ex.refl H) _ fun v H1 e1 ⟨p, ep, hp⟩ => h2 H1 e1 _ fun u H2 e2 ⟨p2, ep2, hp2⟩ => by
    subst ep ep2
    exact ⟨p, p2, xs, zs, rfl, rfl, e2 p _ hp, hp2, sz_of hz, fun l hl => k l _ (ex_out (e1.trans e2) hl) ((e1.trans e2).trans (Ex.new hl)) upd_same⟩
end
/-! ### the row with strange names -/
theorem find_at {α : Type} {l : List α} {p : α → Bool} {m : Nat} {x : α} (h : l[m]? = some x) (hp : p x = true) (hn : ∀ i y, i < m → l[i]? = some y → p y = false) : l.find? p = some x := by
  obtain ⟨h1, h2⟩ := List.getElem?_eq_some_iff.mp h
  have e : l = l.take m ++ x :: l.drop (m + 1) := by
    rw [← h2, ← List.drop_eq_getElem_cons h1, List.take_append_drop]
  rw [e, List.find?_append]
  have h0 : (l.take m).find? p = none := List.find?_eq_none.mpr fun y hy => by
    obtain ⟨j, hj, hj2⟩ := List.getElem_of_mem hy
    rw [List.length_take] at hj
    rw [List.getElem_take] at hj2
    have := hn j y (by omega) (by rw [List.getElem?_eq_getElem (by omega), hj2])
    simpa using this
  rw [h0]
  simp [hp]
def badL (ln : List (List Nat)) : List (List Nat) := ln ++ List.replicate (if ln.length = 0 then 1 else 0) []
theorem badL_len {ln : List (List Nat)} : 1 ≤ (badL ln).length ∧ (badL ln).length ≤ ln.length + 1 := by
  unfold badL
  rw [List.length_append, List.length_replicate]
  split <;> omega
theorem bad_first {ns ln : List (List Nat)} {o1 o2 : Nat} {s1 s2 : List Nat} (hln : ∀ m ∈ ln, m ∈ ns) (h1 : o1 < (badL ln).length) (h2 : o2 < (badL ln).length) (n1 : s1 ∉ ns) (n2 : s2 ∉ ns) :
    (((badL ln).set o1 s1).set o2 s2).find? (fun m => !decide (m ∈ ns)) = some ((((badL ln).set o1 s1).set o2 s2).getD (min o1 o2) []) := by
  have hl : (((badL ln).set o1 s1).set o2 s2).length = (badL ln).length := by simp
  have hm : min o1 o2 < (((badL ln).set o1 s1).set o2 s2).length := by rw [hl]; omega
  have hg : ∀ i, i < (badL ln).length → (((badL ln).set o1 s1).set o2 s2)[i]? = some (if o2 = i then s2 else if o1 = i then s1 else (badL ln).getD i []) := fun i hi => by
    rw [List.getElem?_set, List.getElem?_set, List.length_set]
    by_cases e2 : o2 = i
    · rw [if_pos e2, if_pos (by omega), if_pos e2]
    · rw [if_neg e2, if_neg e2]
      by_cases e1 : o1 = i
      · rw [if_pos e1, if_pos (by omega), if_pos e1]
      · rw [if_neg e1, if_neg e1, List.getD_eq_getElem?_getD, List.getElem?_eq_getElem hi]
        rfl
  have gm := hg (min o1 o2) (by omega)
  refine find_at (m := min o1 o2) ?_ ?_ fun i y hi hy => ?_
  · rw [List.getD_eq_getElem?_getD, gm]
    rfl
  · rw [List.getD_eq_getElem?_getD, gm]
    show (!decide ((if o2 = min o1 o2 then s2 else if o1 = min o1 o2 then s1 else (badL ln).getD (min o1 o2) []) ∈ ns)) = true
    by_cases e2 : o2 = min o1 o2
    · rw [if_pos e2]
      simpa using n2
    · rw [if_neg e2, if_pos (by omega)]
      simpa using n1
  · rw [hg i (by omega), if_neg (by omega), if_neg (by omega)] at hy
    have ey := Option.some.inj hy
    have hi2 : i < (badL ln).length := by omega
    have hin : (badL ln).getD i [] ∈ ns := by
      unfold badL at hi2 ⊢
      by_cases e0 : ln.length = 0
      · have hb : (badL ln).length = 1 := by
          unfold badL
          rw [if_pos e0, List.length_append, e0]
          rfl
        omega
      · rw [if_neg e0, List.replicate_zero, List.append_nil] at hi2 ⊢
        exact hln _ (mem_getD hi2)
    rw [ey] at hin
    simpa using hin
end Mi

set_option maxHeartbeats 4000000
namespace Mi
open PySem PySem.Spec PyProof.Rows L2 Evl
local macro_rules | `(tactic| walk_at "side") => `(tactic| (first | assumption | omega | exact rfl | decide | (simp only [List.length_cons, List.length_nil, List.length_map, List.length_append, List.length_replicate] <;> omega)))
local macro_rules | `(tactic| walk_at "ro") => `(tactic| (first
  | with_reducible exact ro_I0
  | with_reducible exact ro_1018
  | with_reducible exact ro_neC
  | with_reducible exact ro_eqC
  | with_reducible exact ro_neI
  | with_reducible exact ro_eqI
  | with_reducible exact ro_neB
  | with_reducible exact ro_eqB
  | ((with_reducible apply ro_mod); (walk_at "side"))
  | ((with_reducible apply ro_div) <;> (walk_at "side"))
  | ((with_reducible apply ro_divW) <;> (walk_at "side"))
  | with_reducible exact ro_1012
  | with_reducible exact ro_1015
  | ((with_reducible apply ro_mulL) <;> (walk_at "side"))
  | ((with_reducible apply ro_mulR) <;> (walk_at "side"))
  | ((with_reducible apply ro_addC); (walk_at "side"))
  | ((with_reducible apply ro_ixC) <;> (walk_at "side"))
  | ((with_reducible apply ro_ixI) <;> (walk_at "side"))
  | ((with_reducible apply ro_ixIN) <;> (walk_at "side"))
  | ((with_reducible apply ro_ixT2) <;> (walk_at "side"))
  | ((with_reducible apply ro_ixG) <;> (walk_at "side"))
  | ((with_reducible apply ro_eq); exact rfl)
  | ((with_reducible apply ro_ne); exact rfl)
  | with_reducible exact ro_isN
  | with_reducible exact ro_notN
  | with_reducible exact ro_eqL
  | with_reducible exact ro_neL
  | with_reducible exact ro_eqU
  | ((with_reducible apply ro_cat); (walk_at "side"))
  | with_reducible exact ro_inLi
  | with_reducible exact ro_inNi
  | with_reducible exact ro_inUi
  | ((with_reducible apply ro_inL) <;> (walk_at "side"))
  | ((with_reducible apply ro_inN) <;> (walk_at "side"))
  | ((with_reducible apply ro_inU) <;> (walk_at "side"))))
local macro_rules | `(tactic| walk_at "rc") => `(tactic| (first
  | with_reducible exact rc_int
  | with_reducible exact rc_intB
  | with_reducible exact rc_max2
  | ((with_reducible apply rc_lenC); (walk_at "side"))
  | with_reducible exact rc_lenI
  | with_reducible exact rc_lenT
  | with_reducible exact rc_lenIN
  | with_reducible exact rc_lenTN
  | with_reducible exact rc_lenL
  | with_reducible exact rc_lenN
  | with_reducible exact rc_lenU
  | with_reducible exact rc_listL
  | with_reducible exact rc_listU
  | with_reducible exact rc_tupL
  | with_reducible exact rc_tupN
  | ((with_reducible apply rc_isi_int); decide +kernel)
  | ((with_reducible apply rc_isi_str); decide +kernel)
  | ((with_reducible apply rc_isi_bl); decide +kernel)
  | ((with_reducible apply rc_isi_non); decide +kernel)
  | ((with_reducible apply rc_isi_u); decide +kernel)
  | ((with_reducible apply rc_isi_l); decide +kernel)))
local macro_rules | `(tactic| walk_at "er") => `(tactic| (first
  | ((with_reducible apply er_var); (exact rfl); assumption)
  | ((with_reducible apply er_v); exact rfl)
  | with_reducible exact er_c
  | ((with_reducible apply er_pick); (walk_at "er"); (walk_at "er"); (walk_at "er"))
  | ((with_reducible apply er_op); (walk_at "er"); (walk_at "er"); (walk_at "ro"))
  | ((with_reducible apply er_cb); (walk_at "era"); (walk_at "rc"))
  | ((with_reducible apply er_lst'); (walk_at "era"); (exact rfl); (walk_at "side"))
  | ((with_reducible apply er_tup'); (walk_at "era"); (exact rfl); (walk_at "side"))
  | ((with_reducible apply er_notV); (walk_at "er"))
  | ((with_reducible apply er_andV); (walk_at "er"); (intro _; (walk_at "er")))
  | ((with_reducible apply er_orV); (walk_at "er"); (intro _; (walk_at "er")))
  | ((with_reducible apply er_ite); (walk_at "et"); (intro _; (walk_at "er")); (intro _; (walk_at "er")))))
local macro_rules | `(tactic| walk_at "era") => `(tactic| (first
  | with_reducible exact era_nil
  | ((with_reducible apply era_cons); (walk_at "er"); (walk_at "era"))))
local macro_rules | `(tactic| walk_at "et") => `(tactic| (first
  | ((with_reducible apply et_an); (walk_at "et"); (intro _; (walk_at "et")))
  | ((with_reducible apply et_orr); (walk_at "et"); (intro _; (walk_at "et")))
  | ((with_reducible apply et_nt); (walk_at "et"))
  | ((with_reducible apply et1); (walk_at "er"))
  | ((with_reducible apply et2); (walk_at "er"))))

section
variable {K : PySem.W.Frag} {σ : L2.St} {G H : Hp} {te tl ta tb : TE} {D : Ends} {tz : TS}
theorem st_eq {σ' : L2.St} (e : σ = σ') (h : tz D σ' H) : tz D σ H := e ▸ h
theorem vsl_take {L : List (List Nat)} {n : Nat} : (vsl L).take n = vsl (L.take n) := by simp [vsl, vss, List.map_take]
theorem vsl_drop {L : List (List Nat)} {n : Nat} : (vsl L).drop n = vsl (L.drop n) := by simp [vsl, vss, List.map_drop]
theorem vsl_set {L : List (List Nat)} {n : Nat} {t : List Nat} : (vsl L).set n (.str (S t)) = vsl (L.set n t) := by simp [vsl, vss, List.map_set]
theorem vis_set {L : List Int} {n : Nat} {t : Int} : (vis L).set n (.int t) = vis (L.set n t) := by simp [vis, List.map_set]
theorem rc_listP {b : Bool} {tg : List Int} : Rc K (rListS K) [tgD b tg] (.n (vis tg)) := by
  cases b
  · exact rc_listL
  · exact rc_listU
theorem rc_listR {b : Bool} {ds : List Dd} : Rc K (rListS K) [sq5 b ds] (.N ds) := by
  cases b
  · exact rc_listLd
  · exact rc_listUd
theorem two_view {P : Addr} {q : Str} {c1 c2 : Addr} {xs : List V} (g1 : G c1 = none) (g2 : G c2 = none) (c12 : c1 ≠ c2) (e : Ex G H) (t : Tb P q G H) (h1 : H c1 = some (.lst xs)) (h2 : H c2 = some (.lst xs)) : Ex G (upd (upd G c1 (.lst xs)) c2 (.lst xs)) ∧ Ex (upd (upd G c1 (.lst xs)) c2 (.lst xs)) H ∧ Tb P q (upd (upd G c1 (.lst xs)) c2 (.lst xs)) H := by
  obtain ⟨ps, hP, _⟩ := t.2
  have p1 : P ≠ c1 := fun z => by rw [z, h1] at hP; cases hP
  have p2 : P ≠ c2 := fun z => by rw [z, h2] at hP; cases hP
  refine ⟨(Ex.new g1).trans (Ex.new (by rw [upd_ne (Ne.symm c12)]; exact g2)), fun b o hb => ?_, ?_, t.2⟩
  · by_cases q2 : b = c2
    · rw [q2, upd_same] at hb
      rw [q2, h2]
      exact hb
    · rw [upd_ne q2] at hb
      by_cases q1 : b = c1
      · rw [q1, upd_same] at hb
        rw [q1, h1]
        exact hb
      · rw [upd_ne q1] at hb
        exact e b o hb
  · rw [upd_ne p2, upd_ne p1]
    exact t.1
theorem n2s5 {L : Row} {v : V} (h : Is K H (.n (vsl L)) v) : Is K H (sq5 false (tsD L)) v := is_cast (h.n2l).l2L (by rw [tsD_vsl])
end
def szH : List Int := [12, 30, 8, 10, 2, 2, 4, 60, 60, 24, 1000, 2, 60, 60]
theorem szH_ok : szH.length ≤ 1000 ∧ ∀ s ∈ szH, 0 < s ∧ s < 1000000 := by decide
def manyL : List Int := [3, 0, 5, 24, 2, 9, 1, 4, 7, 24, 16, 6]
theorem manyL_ok : ∀ d < 12, 0 ≤ manyL.getD d 0 ∧ manyL.getD d 0 ≤ 24 := by decide
def longL : List Int := [4, 0, 1, 7, 60, 2, 13, 30, 59, 3]
theorem longL_ok : ∀ d < 10, 0 ≤ longL.getD d 0 ∧ longL.getD d 0 ≤ 60 := by decide
theorem nms_parts {d many : Nat} {b : Bool} (hd : d < 8) (hm : many ≤ 24) : ∃ nsm fu : List (List Nat), nmsN d b (many + 2) = nsm ++ fu ∧ nsm.length = many ∧ NsOk nsm ∧ fu.length = 2 ∧ ∀ n ∈ fu, n ∉ nsm := by
  obtain ⟨h1, h2⟩ := nms_ok (b := b) hd (show many + 2 ≤ 26 by omega)
  have hl : (nmsN d b (many + 2)).length = many + 2 := by simp [nmsN]
  have e : nmsN d b (many + 2) = (nmsN d b (many + 2)).take many ++ (nmsN d b (many + 2)).drop many := (List.take_append_drop _ _).symm
  refine ⟨_, _, e, by rw [List.length_take, hl]; omega, ⟨by rw [List.length_take]; omega, h1.sublist (List.take_sublist _ _), fun n hn => h2 n (List.mem_of_mem_take hn)⟩, by rw [List.length_drop, hl]; omega, fun n hn hn2 => ?_⟩
  rw [e, List.nodup_append] at h1
  exact h1.2.2 n hn2 n hn rfl
theorem lnOk_szP (y : Int) : LnOk (digM y szP) := by
  have hb : ∀ i, i < 50 → 0 ≤ (digM y szP).getD i 0 ∧ (digM y szP).getD i 0 < szP.getD i 0 := fun i hi => digM_bd (fun s hs => (szP_ok.2 s hs).1) hi
  refine ⟨by rw [digM_len]; rfl, hb 1 (by decide), fun i hi => ⟨(hb (2 * i + 2) (by omega)).1, (hb (2 * i + 3) (by omega)).1⟩⟩
theorem sz120_ok : (List.replicate 30 (120 : Int)).length ≤ 1000 ∧ ∀ s ∈ List.replicate 30 (120 : Int), 0 < s ∧ s < 1000000 := by decide
section
variable {P : Program} {w : World} {K : PySem.W.Frag} {mg : Str → Option Value} {base : Heap}
abbrev s_law : Stmt := topS 47
theorem sc_law : FnScope ["script", "head", "many", "size", "alls", "names", "stamps", "tags", "picks", "long", "line", "shop", "given", "way", "first", "part", "later", "order", "bad", "strange", "one", "two", "count", "wrong", "changed", "again", "second", "k"] ["script"] (defScope s_law) := ⟨rfl, rfl, rfl, by decide +kernel, rfl, by decide +kernel, by decide +kernel⟩

abbrev spLawT (K : PySem.W.Frag) (Pt : Addr) : Sp := spT K Pt qP (fun ns : List Int => ns.length ≤ 63) (fun ns => [.l (vis ns)]) fun _ => .b true
theorem fn_law {f0 C fI Pt : Addr} {fd0 fdI : FuncData} (T : Txt K mg) (TS : StTxt K mg C) (F : Fun K "law" "law" s_law f0 fd0) (M_init : Mk K C fI) (F_init : FnOk P w K mg base CX0 4 fI fdI ["self", "size", "stamps"] (spInit K C)) (b_init : Binds K fdI ["self", "size", "stamps"] [])
    (C__law_digits : Has P w K mg base 1 "_law_digits" ["value", "sizes"] (sp__law_digits K)) (C__law_cell : Has P w K mg base 1 "_law_cell" ["script", "k"] (sp__law_cell K)) (C__law_names : Has P w K mg base 1 "_law_names" ["digit", "many", "near"] (sp__law_names K)) (C__law_dots : Has P w K mg base 2 "_law_dots" ["value", "names", "size"] (sp__law_dots K)) (C__law_prices : Has P w K mg base 1 "_law_prices" ["line", "many"] (sp__law_prices K)) (C_row_cost : Has P w K mg base 4 "row_cost" ["stock", "prices", "row"] (sp_rc K C)) (D_row_cost : HasD P w K mg base 4 "row_cost" ["stock", "prices", "row"] (sp_rc K C)) (C__law_whole : Has P w K mg base 1 "_law_whole" ["value"] (sp__law_whole K)) (C__law_sum : Has P w K mg base 2 "_law_sum" ["names", "tags", "line"] (sp__law_sum K)) (C_price_order : Has P w K mg base 4 "price_order" ["stock", "prices"] (sp_po K C Pt)) (D_price_order : HasD P w K mg base 4 "price_order" ["stock", "prices"] (sp_po K C Pt)) (C__law_ascending : Has P w K mg base 2 "_law_ascending" ["names", "tags", "told"] (sp__law_ascending K)) (C__law_strange : Has P w K mg base 1 "_law_strange" ["some", "further"] (sp__law_strange K)) (C__law_unknown : Has P w K mg base 5 "_law_unknown" ["shop", "tags", "line", "due"] (sp__law_unknown K C)) (C__law_miscount : Has P w K mg base 1 "_law_miscount" ["many", "pick"] (sp__law_miscount K)) (C__law_cost_refused : Has P w K mg base 5 "_law_cost_refused" ["shop", "wrong", "line"] (sp__law_cost_refused K C)) (C__law_order_refused : Has P w K mg base 5 "_law_order_refused" ["shop", "wrong"] (sp__law_order_refused K C)) : FnOk P w K mg base CX0 6 f0 fd0 ["script"] (spLawT K Pt) := by
  refine Fun.okT F sc_law (fun _ => rfl) fun cdv Ar outer s G A ns vs Q E hr hp hA t0 hv hk => ?_
  replace hp : ns.length ≤ 63 := hp
  rcases hv with _ | ⟨hs, _ | _⟩
  rename_i x
  replace hs : Is K G (.l (vis ns)) x := hs
  have hsA := hs.mono hA
  have sc := sc_law
  refine ⟨_, (pss_cons (ps_set (i := 1) sc.nd rfl (Or.inl rfl) (pe_callH C__law_digits (hr.mono (by decide)) (pa_cons (pe_callH C__law_cell (hr.mono (by decide)) (pa_cons (pv 0) (pa_cons pe_int pa_nil))) (pa_cons (pe_lst (pa_cons pe_int (pa_cons pe_int (pa_cons pe_int (pa_cons pe_int (pa_cons pe_int (pa_cons pe_int (pa_cons pe_int (pa_cons pe_int (pa_cons pe_int (pa_cons pe_int (pa_cons pe_int (pa_cons pe_int (pa_cons pe_int (pa_cons pe_int pa_nil))))))))))))))) pa_nil))))
    (pss_cons (ps_set (i := 2) sc.nd rfl (Or.inr rfl) (pe_ix (ix_list_k (K := K)) (pe_lst (pa_cons pe_int (pa_cons pe_int (pa_cons pe_int (pa_cons pe_int (pa_cons pe_int (pa_cons pe_int (pa_cons pe_int (pa_cons pe_int (pa_cons pe_int (pa_cons pe_int (pa_cons pe_int (pa_cons pe_int pa_nil))))))))))))) (pe_ix (ix_list_k (K := K)) (pv 1) pe_int (fun _ _ => rfl)) (fun _ _ => rfl)))
    (pss_cons (ps_set (i := 3) sc.nd rfl (Or.inl rfl) (pe_op op_add pe_int (pe_ix (ix_list_k (K := K)) (pv 1) pe_int (fun _ _ => rfl))))
    (pss_cons (ps_set (i := 4) sc.nd rfl (Or.inl rfl) (pe_callH C__law_names (hr.mono (by decide)) (pa_cons (pe_ix (ix_list_k (K := K)) (pv 1) pe_int (fun _ _ => rfl)) (pa_cons (pe_op op_add (pv 2) pe_int) (pa_cons (pe_cmpR op_eq (pe_ix (ix_list_k (K := K)) (pv 1) pe_int (fun _ _ => rfl)) pe_int (nomark _)) pa_nil)))))
    (pss_cons (ps_set (i := 5) sc.nd rfl (Or.inr rfl) (pe_slice (sl_list_k (K := K)) (pv 4) po_none (po_some (pv 2))))
    (pss_cons (ps_set (i := 6) sc.nd rfl (Or.inl rfl) (pe_callH C__law_dots (hr.mono (by decide)) (pa_cons (pe_callH C__law_cell (hr.mono (by decide)) (pa_cons (pv 0) (pa_cons pe_int pa_nil))) (pa_cons (pv 5) (pa_cons (pv 3) pa_nil)))))
    (pss_cons (ps_set (i := 7) sc.nd rfl (Or.inr rfl) (pe_callH C__law_prices (hr.mono (by decide)) (pa_cons (pe_callH C__law_digits (hr.mono (by decide)) (pa_cons (pe_callH C__law_cell (hr.mono (by decide)) (pa_cons (pv 0) (pa_cons pe_int pa_nil))) (pa_cons (pe_op op_cat (pe_lst (pa_cons pe_int (pa_cons pe_int pa_nil))) (pe_op op_rep (pe_lst (pa_cons pe_int (pa_cons pe_int pa_nil))) pe_int)) pa_nil))) (pa_cons (pv 2) pa_nil))))
    (pss_cons (ps_set (i := 8) sc.nd rfl (Or.inr rfl) (pe_op op_cat (pe_callH C__law_digits (hr.mono (by decide)) (pa_cons (pe_callH C__law_cell (hr.mono (by decide)) (pa_cons (pv 0) (pa_cons pe_int pa_nil))) (pa_cons (pe_op op_rep (pe_lst (pa_cons pe_int pa_nil)) pe_int) pa_nil))) (pe_callH C__law_digits (hr.mono (by decide)) (pa_cons (pe_callH C__law_cell (hr.mono (by decide)) (pa_cons (pv 0) (pa_cons pe_int pa_nil))) (pa_cons (pe_op op_rep (pe_lst (pa_cons pe_int pa_nil)) pe_int) pa_nil)))))
    (pss_cons (ps_set (i := 9) sc.nd rfl (Or.inl rfl) (pe_op op_mul (pe_ix (ix_list_k (K := K)) (pe_lst (pa_cons pe_int (pa_cons pe_int (pa_cons pe_int (pa_cons pe_int (pa_cons pe_int (pa_cons pe_int (pa_cons pe_int (pa_cons pe_int (pa_cons pe_int (pa_cons pe_int pa_nil))))))))))) (pe_ix (ix_list_k (K := K)) (pv 1) pe_int (fun _ _ => rfl)) (fun _ _ => rfl)) (pe_callTy cr_int (by rfl) T.b_int (by decide +kernel) (pa_cons (pe_cmpR op_gt (pv 2) pe_int (nomark _)) pa_nil))))
    (pss_cons (ps_setLc (i := 10) (own := [("k", 27)]) (g := gName 27) (by rfl) sc.nd rfl rfl (sw_true rfl rfl rfl (by decide +kernel)) (pi_range1 (by rfl) T.b_range (pa_cons (pv 9) pa_nil)) (blkOk_by (N := ["script", "head", "many", "size", "alls", "names", "stamps", "tags", "picks", "long", "line", "shop", "given", "way", "first", "part", "later", "order", "bad", "strange", "one", "two", "count", "wrong", "changed", "again", "second", "k"]) (sc := defScope s_law) (own := [("k", 27)]) (by decide +kernel)) (fun _ _ _ _ _ => (pg_name (i := 27) sc.nd rfl (Or.inl rfl))) (fun _ _ _ _ _ => pts_nil) (fun _ _ _ _ _ => (pe_ix (ix_list_k (K := K)) (pv 5) (pe_op op_mod (pe_callTy cr_int (by rfl) T.b_int (by decide +kernel) (pa_cons (pe_ix (ix_list_k (K := K)) (pv 8) (pv 27) (fun _ _ => rfl)) pa_nil)) (pe_callB cr_max2 (by rfl) T.b_max (by decide +kernel) (pa_cons pe_int (pa_cons (pv 2) pa_nil)))) (fun _ _ => rfl))))
    (pss_cons (ps_set (i := 11) sc.nd rfl (Or.inl rfl) (pe_make M_init F_init (hr.mono (by decide)) (by rfl) TS.mgC b_init .nil pass0 (pa_cons (pv 3) (pa_cons (pv 6) pa_nil))))
    (pss_cons (ps_set (i := 12) sc.nd rfl (Or.inl rfl) (pe_ix (ix_list_k (K := K)) (pe_lst (pa_cons (pe_callTy (cr_list_k (K := K)) (by rfl) T.b_list (by decide +kernel) (pa_cons (pv 7) pa_nil)) (pa_cons (pe_callTy (cr_tuple_k (K := K)) (by rfl) T.b_tuple (by decide +kernel) (pa_cons (pv 7) pa_nil)) pa_nil))) (pe_ix (ix_list_k (K := K)) (pv 1) pe_int (fun _ _ => rfl)) (fun _ _ => rfl)))
    (pss_cons (ps_set (i := 13) sc.nd rfl (Or.inl rfl) (pe_ix (ix_list_k (K := K)) (pe_lst (pa_cons (pe_callTy (cr_list_k (K := K)) (by rfl) T.b_list (by decide +kernel) (pa_cons (pv 10) pa_nil)) (pa_cons (pe_callTy (cr_tuple_k (K := K)) (by rfl) T.b_tuple (by decide +kernel) (pa_cons (pv 10) pa_nil)) pa_nil))) (pe_ix (ix_list_k (K := K)) (pv 1) pe_int (fun _ _ => rfl)) (fun _ _ => rfl)))
    (pss_cons (ps_set (i := 14) sc.nd rfl (Or.inl rfl) (pe_callH C_row_cost (hr.mono (by decide)) (pa_cons (pv 11) (pa_cons (pv 12) (pa_cons (pv 13) pa_nil)))))
    (pss_cons (ps_if (PW.pt (pw_or (pt_not (pt_val (pe_callH C__law_whole (hr.mono (by decide)) (pa_cons (pv 14) pa_nil)))) (pw_or1 (pt_cmpR op_ne (pv 14) (pe_callH C__law_sum (hr.mono (by decide)) (pa_cons (pv 5) (pa_cons (pv 7) (pa_cons (pv 10) pa_nil)))) (nomark _))))) (pss_one (ps_ret pe_bl)) pss_nil)
    (pss_cons (ps_set (i := 15) sc.nd rfl (Or.inl rfl) (pe_slice (sl_seq_k (K := K)) (pv 13) (po_some (pe_op op_mod (pe_callTy cr_int (by rfl) T.b_int (by decide +kernel) (pa_cons (pe_ix (ix_list_k (K := K)) (pv 1) pe_int (fun _ _ => rfl)) pa_nil)) (pe_op op_add (pv 9) pe_int))) po_none))
    (pss_cons (ps_set (i := 16) sc.nd rfl (Or.inl rfl) (pe_callH C_row_cost (hr.mono (by decide)) (pa_cons (pv 11) (pa_cons (pv 12) (pa_cons (pv 15) pa_nil)))))
    (pss_cons (ps_if (PW.pt (pw_or (pt_not (pt_val (pe_callH C__law_whole (hr.mono (by decide)) (pa_cons (pv 16) pa_nil)))) (pw_or1 (pt_cmpR op_ne (pv 16) (pe_callH C__law_sum (hr.mono (by decide)) (pa_cons (pv 5) (pa_cons (pv 7) (pa_cons (pv 15) pa_nil)))) (nomark _))))) (pss_one (ps_ret pe_bl)) pss_nil)
    (pss_cons (ps_set (i := 17) sc.nd rfl (Or.inl rfl) (pe_callH C_price_order (hr.mono (by decide)) (pa_cons (pv 11) (pa_cons (pv 12) pa_nil))))
    (pss_cons (ps_if (pt_not (pt_val (pe_callH C__law_ascending (hr.mono (by decide)) (pa_cons (pv 5) (pa_cons (pv 7) (pa_cons (pv 17) pa_nil)))))) (pss_one (ps_ret pe_bl)) pss_nil)
    (pss_cons (ps_set (i := 18) sc.nd rfl (Or.inl rfl) (pe_op op_cat (pv 10) (pe_op op_rep (pe_lst (pa_cons (pe_strS [] (by rfl)) pa_nil)) (pe_callTy cr_int (by rfl) T.b_int (by decide +kernel) (pa_cons (pe_cmpR op_eq (pe_callB (cr_len_k (K := K)) (by rfl) T.b_len (by decide +kernel) (pa_cons (pv 10) pa_nil)) pe_int (nomark _)) pa_nil)))))
    (pss_cons (ps_set (i := 19) sc.nd rfl (Or.inl rfl) (pe_callH C__law_strange (hr.mono (by decide)) (pa_cons (pe_slice (sl_list_k (K := K)) (pv 5) po_none (po_some pe_int)) (pa_cons (pe_slice (sl_list_k (K := K)) (pv 4) (po_some (pv 2)) po_none) pa_nil))))
    (pss_cons (ps_set (i := 20) sc.nd rfl (Or.inl rfl) (pe_op op_mod (pe_callTy cr_int (by rfl) T.b_int (by decide +kernel) (pa_cons (pe_ix (ix_list_k (K := K)) (pv 1) pe_int (fun _ _ => rfl)) pa_nil)) (pe_callB (cr_len_k (K := K)) (by rfl) T.b_len (by decide +kernel) (pa_cons (pv 18) pa_nil))))
    (pss_cons (ps_set (i := 21) sc.nd rfl (Or.inl rfl) (pe_op op_mod (pe_callTy cr_int (by rfl) T.b_int (by decide +kernel) (pa_cons (pe_ix (ix_list_k (K := K)) (pv 1) pe_int (fun _ _ => rfl)) pa_nil)) (pe_callB (cr_len_k (K := K)) (by rfl) T.b_len (by decide +kernel) (pa_cons (pv 18) pa_nil))))
    (pss_cons (ps_asg (pe_ix (ix_list_k (K := K)) (pv 19) (pe_op op_mod (pe_callTy cr_int (by rfl) T.b_int (by decide +kernel) (pa_cons (pe_ix (ix_list_k (K := K)) (pv 1) pe_int (fun _ _ => rfl)) pa_nil)) (pe_callB (cr_len_k (K := K)) (by rfl) T.b_len (by decide +kernel) (pa_cons (pv 19) pa_nil))) (fun _ _ => rfl)) (pg_sub (pv 18) (pv 20) set_list))
    (pss_cons (ps_asg (pe_ix (ix_list_k (K := K)) (pv 19) (pe_op op_mod (pe_callTy cr_int (by rfl) T.b_int (by decide +kernel) (pa_cons (pe_ix (ix_list_k (K := K)) (pv 1) pe_int (fun _ _ => rfl)) pa_nil)) (pe_callB (cr_len_k (K := K)) (by rfl) T.b_len (by decide +kernel) (pa_cons (pv 19) pa_nil))) (fun _ _ => rfl)) (pg_sub (pv 18) (pv 21) set_list))
    (pss_cons (ps_if (pt_not (pt_val (pe_callH C__law_unknown (hr.mono (by decide)) (pa_cons (pv 11) (pa_cons (pv 12) (pa_cons (pe_callTy (cr_list_k (K := K)) (by rfl) T.b_list (by decide +kernel) (pa_cons (pv 18) pa_nil)) (pa_cons (pe_ix (ix_list_k (K := K)) (pv 18) (pe_callB cr_min2' (by rfl) T.b_min (by decide +kernel) (pa_cons (pv 20) (pa_cons (pv 21) pa_nil))) (fun _ _ => rfl)) pa_nil))))))) (pss_one (ps_ret pe_bl)) pss_nil)
    (pss_cons (ps_set (i := 22) sc.nd rfl (Or.inl rfl) (pe_callH C__law_miscount (hr.mono (by decide)) (pa_cons (pv 2) (pa_cons (pe_ix (ix_list_k (K := K)) (pv 1) pe_int (fun _ _ => rfl)) pa_nil))))
    (pss_cons (ps_setLc (i := 23) (own := [("k", 27)]) (g := gName 27) (by rfl) sc.nd rfl rfl (sw_true rfl rfl rfl (by decide +kernel)) (pi_range1 (by rfl) T.b_range (pa_cons (pv 22) pa_nil)) (blkOk_by (N := ["script", "head", "many", "size", "alls", "names", "stamps", "tags", "picks", "long", "line", "shop", "given", "way", "first", "part", "later", "order", "bad", "strange", "one", "two", "count", "wrong", "changed", "again", "second", "k"]) (sc := defScope s_law) (own := [("k", 27)]) (by decide +kernel)) (fun _ _ _ _ _ => (pg_name (i := 27) sc.nd rfl (Or.inl rfl))) (fun _ _ _ _ _ => pts_nil) (fun _ _ _ _ _ => (pe_ix (ix_list_k (K := K)) (pe_op op_cat (pv 7) (pe_lst (pa_cons pe_int pa_nil))) (pe_op op_mod (pv 27) (pe_op op_add (pv 2) pe_int)) (fun _ _ => rfl))))
    (pss_cons (ps_if (PW.pt (pw_or (pt_not (pt_val (pe_callH C__law_cost_refused (hr.mono (by decide)) (pa_cons (pv 11) (pa_cons (pv 23) (pa_cons (pv 13) pa_nil)))))) (pw_or1 (pt_not (pt_val (pe_callH C__law_cost_refused (hr.mono (by decide)) (pa_cons (pv 11) (pa_cons (pe_callTy (cr_tuple_k (K := K)) (by rfl) T.b_tuple (by decide +kernel) (pa_cons (pv 23) pa_nil)) (pa_cons (pv 18) pa_nil))))))))) (pss_one (ps_ret pe_bl)) pss_nil)
    (pss_cons (ps_if (pt_not (pt_val (pe_callH C__law_order_refused (hr.mono (by decide)) (pa_cons (pv 11) (pa_cons (pv 23) pa_nil))))) (pss_one (ps_ret pe_bl)) pss_nil)
    (pss_cons (ps_if (PW.pt (pw_or (pt_cmpR (op_neD_k (K := K) hr.units) (pe_callTy (cr_list_k (K := K)) (by rfl) T.b_list (by decide +kernel) (pa_cons (pv 12) pa_nil)) (pv 7) (nomark _)) (pw_or (pt_cmpR (op_neD_k (K := K) hr.units) (pe_callTy (cr_list_k (K := K)) (by rfl) T.b_list (by decide +kernel) (pa_cons (pv 13) pa_nil)) (pv 10) (nomark _)) (pw_or1 (pt_cmpR op_ne (pe_callB (cr_len_k (K := K)) (by rfl) T.b_len (by decide +kernel) (pa_cons (pv 23) pa_nil)) (pv 22) (nomark _)))))) (pss_one (ps_ret pe_bl)) pss_nil)
    (pss_cons (ps_set (i := 24) sc.nd rfl (Or.inl rfl) (pe_callTy (cr_list_k (K := K)) (by rfl) T.b_list (by decide +kernel) (pa_cons (pv 7) pa_nil)))
    (pss_cons (ps_set (i := 25) sc.nd rfl (Or.inl rfl) (pe_callTy (cr_list_k (K := K)) (by rfl) T.b_list (by decide +kernel) (pa_cons (pv 7) pa_nil)))
    (pss_cons (ps_if (PW.pt (pw_or (pt_cmpR op_ne (pe_callH C_row_cost (hr.mono (by decide)) (pa_cons (pv 11) (pa_cons (pv 25) (pa_cons (pv 13) pa_nil)))) (pv 14) (nomark _)) (pw_or1 (pt_cmpR (op_neD_k (K := K) hr.units) (pe_callH C_price_order (hr.mono (by decide)) (pa_cons (pv 11) (pa_cons (pv 25) pa_nil))) (pv 17) (nomark _))))) (pss_one (ps_ret pe_bl)) pss_nil)
    (pss_cons (ps_if (pt_cmpR op_gt (pv 2) pe_int (nomark _)) (pss_cons (ps_asg (pe_ix (ix_list_k (K := K)) (pv 1) pe_int (fun _ _ => rfl)) (pg_sub (pv 24) (pe_op op_mod (pe_callTy cr_int (by rfl) T.b_int (by decide +kernel) (pa_cons (pe_ix (ix_list_k (K := K)) (pv 1) pe_int (fun _ _ => rfl)) pa_nil)) (pv 2)) set_list))
    (pss_one (ps_asg (pe_ix (ix_list_k (K := K)) (pv 1) pe_int (fun _ _ => rfl)) (pg_sub (pv 25) (pe_op op_mod (pe_callTy cr_int (by rfl) T.b_int (by decide +kernel) (pa_cons (pe_ix (ix_list_k (K := K)) (pv 1) pe_int (fun _ _ => rfl)) pa_nil)) (pv 2)) set_list)))) pss_nil)
    (pss_cons (ps_set (i := 26) sc.nd rfl (Or.inl rfl) (pe_callD D_row_cost (hr.mono (by decide)) (pk_cons (pv 11) (pk_cons (pv 25) (pk_cons (pv 13) pk_nil)))))
    (pss_cons (ps_if (PW.pt (pw_or (pt_not (pt_val (pe_callH C__law_whole (hr.mono (by decide)) (pa_cons (pv 26) pa_nil)))) (pw_or1 (pt_cmpR op_ne (pv 26) (pe_callH C__law_sum (hr.mono (by decide)) (pa_cons (pv 5) (pa_cons (pv 24) (pa_cons (pv 10) pa_nil)))) (nomark _))))) (pss_one (ps_ret pe_bl)) pss_nil)
    (pss_one (ps_ret (pe_and (pe_callH C__law_ascending (hr.mono (by decide)) (pa_cons (pv 5) (pa_cons (pv 24) (pa_cons (pe_callD D_price_order (hr.mono (by decide)) (pk_cons (pv 11) (pk_cons (pv 25) pk_nil))) pa_nil)))) (pe_one (pe_cmpR (op_eqD_k (K := K) hr.units) (pv 25) (pv 24) (nomark _)))))))))))))))))))))))))))))))))))))))))))), ?_⟩
  have hl : (digM (cellM ns 0) szH).length = 14 := by rw [digM_len]; rfl
  have hb : ∀ i, i < 14 → 0 ≤ (digM (cellM ns 0) szH).getD i 0 ∧ (digM (cellM ns 0) szH).getD i 0 < szH.getD i 0 := fun i hi => digM_bd (fun s hs => (szH_ok.2 s hs).1) hi
  refine a_asg (K := K) (d := .n (vis (digM (cellM ns 0) szH))) (er_call (K := K) (cellM ns 0, szH) (era_cons (er_call (ns, 0) (era_cons (er_var rfl hsA) (era_cons er_c era_nil)) rfl ⟨hp, Nat.zero_le _⟩) (era_cons (Er.n2l (er_lst (vs := vis szH) (by repeat (first | exact era_nil | refine era_cons er_c ?_)) (by decide))) era_nil)) rfl szH_ok) fun vh H1 e1 hh => ?_
  generalize digM (cellM ns 0) szH = hd at hl hb hh
  have athd : ∀ {te : TE} {σ : L2.St} {H : Hp} {j : Nat}, Er K te σ H (.n (vis hd)) → j < 14 → Er K (tOp (rIxL K) te (tC (.int (j : Int)))) σ H (.i (hd.getD j 0)) := fun {te σ H j} q hj => er_numN q er_c (by omega)
  have nat : ∀ i, i < 14 → ∃ d : Nat, hd.getD i 0 = (d : Int) ∧ (d : Int) < szH.getD i 0 := fun i hi => ⟨(hd.getD i 0).toNat, (Int.toNat_of_nonneg (hb i hi).1).symm, by rw [Int.toNat_of_nonneg (hb i hi).1]; exact (hb i hi).2⟩
  obtain ⟨d0, q0, b0⟩ := nat 0 (by decide)
  replace b0 : d0 < 12 := by
    have : (d0 : Int) < 12 := b0
    omega
  obtain ⟨d1, q1, b1⟩ := nat 1 (by decide)
  replace b1 : d1 < 30 := by
    have : (d1 : Int) < 30 := b1
    omega
  obtain ⟨d2, q2, b2⟩ := nat 2 (by decide)
  replace b2 : d2 < 8 := by
    have : (d2 : Int) < 8 := b2
    omega
  obtain ⟨d3, q3, b3⟩ := nat 3 (by decide)
  replace b3 : d3 < 10 := by
    have : (d3 : Int) < 10 := b3
    omega
  obtain ⟨d4, q4, b4⟩ := nat 4 (by decide)
  replace b4 : d4 < 2 := by
    have : (d4 : Int) < 2 := b4
    omega
  obtain ⟨d5, q5, b5⟩ := nat 5 (by decide)
  replace b5 : d5 < 2 := by
    have : (d5 : Int) < 2 := b5
    omega
  obtain ⟨d6, q6, b6⟩ := nat 6 (by decide)
  replace b6 : d6 < 4 := by
    have : (d6 : Int) < 4 := b6
    omega
  obtain ⟨d10, q10, b10⟩ := nat 10 (by decide)
  replace b10 : d10 < 1000 := by
    have : (d10 : Int) < 1000 := b10
    omega
  obtain ⟨many, qm, bm⟩ : ∃ m : Nat, manyL.getD d0 0 = (m : Int) ∧ m ≤ 24 := by
    obtain ⟨u1, u2⟩ := manyL_ok d0 b0
    exact ⟨(manyL.getD d0 0).toNat, (Int.toNat_of_nonneg u1).symm, by omega⟩
  refine a_setv (K := K) (x := .int (many : Int)) (Er.to (er_numN (ns := manyL) (n := d0) (er_lst (vs := vis manyL) (by repeat (first | exact era_nil | refine era_cons er_c ?_)) (by decide)) (Er.to (athd (j := 0) (er_var rfl hh) (by decide)) (congrArg Dd.i q0)) b0) (congrArg Dd.i qm)) fun H2 e2 => ?_
  obtain ⟨z, hz, z1, z30⟩ : ∃ z : Nat, 1 + hd.getD 1 0 = (z : Int) ∧ 1 ≤ z ∧ z ≤ 30 := ⟨d1 + 1, by omega, by omega, by omega⟩
  refine a_setv (K := K) (x := .int (z : Int)) (Er.to (er_op er_c (athd (j := 1) (er_var rfl (hh.mono e2)) (by decide)) ro_I0) (congrArg Dd.i hz)) fun H3 e3 => ?_
  obtain ⟨near, hnear⟩ : ∃ b, decide (hd.getD 11 0 = 1) = b := ⟨_, rfl⟩
  have hh3 := hh.mono (e2.trans e3)
  obtain ⟨nsm, fu, hal, hnl, hN, hfl, hfn⟩ := nms_parts (b := near) b2 bm
  refine a_asg (K := K) (d := .n (vsl (nsm ++ fu))) (Er.to (er_call (K := K) (d2, many + 2, near) (era_cons (Er.to (athd (j := 2) (er_var rfl hh3) (by decide)) (congrArg Dd.i q2)) (era_cons (er_op (er_v rfl) er_c ro_I0) (era_cons (Er.to (er_op (athd (j := 11) (er_var rfl hh3) (by decide)) er_c ro_eqI) (congrArg Dd.b hnear)) era_nil))) rfl ⟨b2, show many + 2 ≤ 26 by omega⟩) (by show Dd.n (vsl (nmsN d2 near (many + 2))) = _; rw [hal])) fun va H4 e4 hva => ?_
  refine st_eq (σ' := [some x, some vh, some (.int (many : Int)), some (.int (z : Int)), some va, none, none, none, none, none, none, none, none, none, none, none, none, none, none, none, none, none, none, none, none, none, none, none]) rfl ?_
  refine a_asg (K := K) (d := .n (vsl nsm)) (Er.to (er_cutTo (n := many) (Er.n2l (er_var rfl hva)) (er_v rfl)) (by rw [vsl_take, ← hnl, List.take_left])) fun vn H5 e5 hn => ?_
  have E5 := e1.trans (e2.trans (e3.trans (e4.trans e5)))
  refine a_asg (K := K) (d := dotsD K z nsm) (er_call (K := K) (cellM ns 1, nsm, z) (era_cons (er_call (ns, 1) (era_cons (er_var rfl (hsA.mono E5)) (era_cons er_c era_nil)) rfl ⟨hp, show 1 ≤ 1000 by decide⟩) (era_cons (Er.n2l (er_var rfl hn)) (era_cons (er_v rfl) era_nil))) rfl ⟨hN, z1, z30⟩) fun vst H6 e6 hst => ?_
  obtain ⟨L, hPO, rfl, hst⟩ := hst
  have hlL : L.length = many := by rw [← hnl, List.length_map]
  have stn : StN L := ⟨hPO.di, hPO.few⟩
  have E6 := E5.trans e6
  refine st_eq (σ' := [some x, some vh, some (.int (many : Int)), some (.int (z : Int)), some va, some vn, some vst, none, none, none, none, none, none, none, none, none, none, none, none, none, none, none, none, none, none, none, none, none]) rfl ?_
  refine a_asg (K := K) (d := tagsD K many) (er_call (K := K) (digM (cellM ns 2) szP, many) (era_cons (Er.n2l (er_call (K := K) (cellM ns 2, szP) (era_cons (er_call (ns, 2) (era_cons (er_var rfl (hsA.mono E6)) (era_cons er_c era_nil)) rfl ⟨hp, show 2 ≤ 1000 by decide⟩) (era_cons (Er.n2l (Er.to (er_op (er_lst (vs := vis [6, 1000]) (era_cons er_c (era_cons er_c era_nil)) (by decide)) (er_op (er_lst (vs := vis [12, 1000]) (era_cons er_c (era_cons er_c era_nil)) (by decide)) er_c (ro_rep (k := 24) (by decide) (by decide))) (ro_cat (by decide))) (d' := .n (vis szP)) rfl)) era_nil)) rfl szP_ok)) (era_cons (er_v rfl) era_nil)) rfl ⟨lnOk_szP _, bm⟩) fun vt H7 e7 ht => ?_
  obtain ⟨tg, tl, tp, ht⟩ := ht
  have E7 := E6.trans e7
  have p120 : ∀ y : Int, (digM y (List.replicate 30 120)).length = 30 := fun y => by rw [digM_len]; rfl
  have b120 : ∀ (y : Int) (i : Nat), i < 30 → 0 ≤ (digM y (List.replicate 30 120)).getD i 0 := fun y i hi => (digM_bd (fun s hs => (sz120_ok.2 s hs).1) (by simpa using hi)).1
  refine a_asg (K := K) (d := .n (vis (digM (cellM ns 3) (List.replicate 30 120) ++ digM (cellM ns 4) (List.replicate 30 120)))) (Er.to (er_op (er_call (K := K) (cellM ns 3, List.replicate 30 120) (era_cons (er_call (ns, 3) (era_cons (er_var rfl (hsA.mono E7)) (era_cons er_c era_nil)) rfl ⟨hp, show 3 ≤ 1000 by decide⟩) (era_cons (Er.n2l (er_same (n := 120) (k := 30) er_c (by decide))) era_nil)) rfl sz120_ok) (er_call (K := K) (cellM ns 4, List.replicate 30 120) (era_cons (er_call (ns, 4) (era_cons (er_var rfl (hsA.mono E7)) (era_cons er_c era_nil)) rfl ⟨hp, show 4 ≤ 1000 by decide⟩) (era_cons (Er.n2l (er_same (n := 120) (k := 30) er_c (by decide))) era_nil)) rfl sz120_ok) (ro_cat (by rw [List.length_map, List.length_map, p120, p120]; decide))) (by rw [vis, vis, vis, List.map_append])) fun vp H8 e8 hpk => ?_
  have pkl : (digM (cellM ns 3) (List.replicate 30 120) ++ digM (cellM ns 4) (List.replicate 30 120)).length = 60 := by rw [List.length_append, p120, p120]
  generalize digM (cellM ns 3) (List.replicate 30 120) ++ digM (cellM ns 4) (List.replicate 30 120) = pk at hpk pkl
  refine st_eq (σ' := [some x, some vh, some (.int (many : Int)), some (.int (z : Int)), some va, some vn, some vst, some vt, some vp, none, none, none, none, none, none, none, none, none, none, none, none, none, none, none, none, none, none, none]) rfl ?_
  have hh8 : Is K H8 (.n (vis hd)) vh := hh3.mono (e4.trans (e5.trans (e6.trans (e7.trans e8))))
  obtain ⟨lg, qlg, blg, hlg0⟩ : ∃ lg : Nat, longL.getD d3 0 * (if decide ((many : Int) > 0) = true then 1 else 0) = (lg : Int) ∧ lg ≤ 60 ∧ (0 < lg → 0 < many) := by
    obtain ⟨u1, u2⟩ := longL_ok d3 b3
    by_cases hm0 : (many : Int) > 0
    · rw [decide_eq_true hm0, if_pos rfl]
      exact ⟨(longL.getD d3 0).toNat, by omega, by omega, fun _ => by omega⟩
    · rw [decide_eq_false hm0, if_neg Bool.false_ne_true]
      exact ⟨0, by simp, by omega, fun h => absurd h (Nat.lt_irrefl 0)⟩
  have ll60 : -18446744073709551616 < longL.getD d3 0 ∧ longL.getD d3 0 < 18446744073709551616 := by
    obtain ⟨u1, u2⟩ := longL_ok d3 b3
    omega
  refine a_setv (K := K) (x := .int (lg : Int)) (Er.to (er_op (er_numN (ns := longL) (n := d3) (er_lst (vs := vis longL) (by repeat (first | exact era_nil | refine era_cons er_c ?_)) (by decide)) (Er.to (athd (j := 3) (er_var rfl hh8) (by decide)) (congrArg Dd.i q3)) b3) (er_cb (era_cons (er_op (er_v rfl) er_c ro_I0) era_nil) rc_intB) (ro_mulL ll60.1 ll60.2)) (congrArg Dd.i qlg)) fun H9 e9 => ?_
  have hn9 := hn.mono (e6.trans (e7.trans (e8.trans e9)))
  have hpk9 := hpk.mono e9
  obtain ⟨mx, hmx, mx0, mxm⟩ : ∃ mx : Int, (if (many : Int) > 1 then (many : Int) else 1) = mx ∧ 0 < mx ∧ (0 < many → mx = (many : Int)) := ⟨_, rfl, by split <;> omega, fun h => by split <;> omega⟩
  refine a_asg (K := K) (d := .n (vsl ((List.range lg).map fun k : Nat => (L.map (·.1)).getD (pk.getD k 0 % mx).toNat []))) (Er.to (er_lcR' (K := K) (n := lg) (vs := [27]) (fun k => V.str (S ((L.map (·.1)).getD (pk.getD k 0 % mx).toNat []))) (era_cons (er_v rfl) era_nil) (by omega) (fun _ => rfl) (fun k Hk ek hk3 => ?_)) (by simp only [vsl, vss, List.map_map]; rfl)) fun vl H10 e10 hln => ?_
  · have hm0 := hlg0 (by omega)
    refine er_op (er_var rfl (hn9.mono ek)) (er_op (er_cb (era_cons (er_numN (n := k) (er_var rfl (hpk9.mono ek)) (er_v rfl) (by omega)) era_nil) rc_int) (Er.to (er_cb (era_cons er_c (era_cons (er_v rfl) era_nil)) rc_max2) (congrArg Dd.i hmx)) (ro_mod mx0)) (ro_ixSN (Int.emod_nonneg _ (by omega)) ?_)
    rw [hnl]
    have := Int.emod_lt_of_pos (pk.getD k 0) mx0
    rw [mxm hm0] at this ⊢
    exact this
  have hlm : ∀ m ∈ (List.range lg).map (fun k : Nat => (L.map (·.1)).getD (pk.getD k 0 % mx).toNat []), m ∈ L.map (·.1) := by
    intro m hm
    obtain ⟨k, hk1, rfl⟩ := List.mem_map.mp hm
    have hm0 := hlg0 (by have := List.mem_range.mp hk1; omega)
    refine mem_getD ?_
    rw [hnl]
    have u1 := Int.emod_lt_of_pos (pk.getD k 0) mx0
    have u2 := Int.emod_nonneg (pk.getD k 0) (show mx ≠ 0 by omega)
    have u3 := mxm hm0
    omega
  have hll : ((List.range lg).map (fun k : Nat => (L.map (·.1)).getD (pk.getD k 0 % mx).toNat [])).length = lg := by simp
  generalize (List.range lg).map (fun k : Nat => (L.map (·.1)).getD (pk.getD k 0 % mx).toNat []) = ln at hln hlm hll
  refine st_eq (σ' := [some x, some vh, some (.int (many : Int)), some (.int (z : Int)), some va, some vn, some vst, some vt, some vp, some (.int (lg : Int)), some vl, none, none, none, none, none, none, none, none, none, none, none, none, none, none, none, none, none]) rfl ?_
  have E10 := E7.trans (e8.trans (e9.trans e10))
  have tlen : tg.length = L.length := by omega
  have tlen2 : tg.length = (nmV L).length := by rw [StN.nl]; omega
  have few := hPO.few
  refine a_asg (K := K) (er_makeC (n := z) (sts := L) (d := .L (stD L)) (era_cons (er_v rfl) (era_cons (er_var rfl (hst.mono (e7.trans (e8.trans (e9.trans e10))))) era_nil)) hPO (gv_L few)) fun vsh H11 e11 hsh => ?_
  have hh11 := hh8.mono (e9.trans (e10.trans e11))
  have ht11 := ht.mono (e8.trans (e9.trans (e10.trans e11)))
  obtain ⟨bg, hbg⟩ : ∃ b : Bool, [Dd.l (vis tg), Dd.u (vis tg)][d4]? = some (tgD b tg) := by
    have h01 : d4 = 0 ∨ d4 = 1 := by omega
    rcases h01 with h | h
    · rw [h]
      exact ⟨false, rfl⟩
    · rw [h]
      exact ⟨true, rfl⟩
  refine a_asg (K := K) (d := tgD bg tg) (er_op (er_N (ds := [.l (vis tg), .u (vis tg)]) (era_cons (Er.n2l (er_cb (era_cons (Er.n2l (er_var rfl ht11)) era_nil) rc_listL)) (era_cons (er_cb (era_cons (er_var rfl ht11) era_nil) rc_tupN) era_nil)) (by simp)) (Er.to (athd (j := 4) (er_var rfl hh11) (by decide)) (congrArg Dd.i q4)) (ro_ixNd hbg)) fun vg H12 e12 hg => ?_
  obtain ⟨bw, hbw⟩ : ∃ b : Bool, [Dd.L (tsD ln), Dd.U (tsD ln)][d5]? = some (sq5 b (tsD ln)) := by
    have h01 : d5 = 0 ∨ d5 = 1 := by omega
    rcases h01 with h | h
    · rw [h]
      exact ⟨false, rfl⟩
    · rw [h]
      exact ⟨true, rfl⟩
  have hl12 := hln.mono (e11.trans e12)
  refine st_eq (σ' := [some x, some vh, some (.int (many : Int)), some (.int (z : Int)), some va, some vn, some vst, some vt, some vp, some (.int (lg : Int)), some vl, some vsh, some vg, none, none, none, none, none, none, none, none, none, none, none, none, none, none, none]) rfl ?_
  refine a_asg (K := K) (d := sq5 bw (tsD ln)) (er_op (er_N (ds := [.L (tsD ln), .U (tsD ln)]) (era_cons (Er.as (d := .n (vsl ln)) (er_cb (era_cons (Er.n2l (er_var rfl hl12)) era_nil) rc_listL) fun _ _ z => n2s5 z) (era_cons (Er.as (d := .u (vsl ln)) (er_cb (era_cons (er_var rfl hl12) era_nil) rc_tupN) fun _ _ z => is_cast z.u2U (by rw [tsD_vsl])) era_nil)) (by simp)) (Er.to (athd (j := 5) (er_var rfl (hh11.mono e12)) (by decide)) (congrArg Dd.i q5)) (ro_ixNd hbw)) fun vw H13 e13 hw => ?_
  obtain ⟨s1, hs1⟩ : ∃ s1, sumM (nmV L) tg ln = s1 := ⟨_, rfl⟩
  have hsh13 := hsh.mono (e12.trans e13)
  have hg13 := hg.mono e13
  refine a_setv (K := K) (x := .int s1) (Er.to (er_call (K := K) (((z, L), (bg, tg), bw, ln) : RcA) (era_cons (er_var rfl hsh13) (era_cons (er_var rfl hg13) (era_cons (er_var rfl hw) era_nil))) rfl ⟨⟨stn, tlen⟩, by show ln.length ≤ 1000; omega, hlm⟩) (congrArg Dd.i hs1)) fun H14 e14 => ?_
  refine st_eq (σ' := [some x, some vh, some (.int (many : Int)), some (.int (z : Int)), some va, some vn, some vst, some vt, some vp, some (.int (lg : Int)), some vl, some vsh, some vg, some vw, some (.int s1), none, none, none, none, none, none, none, none, none, none, none, none, none]) rfl ?_
  have hn14 := hn.mono (e6.trans (e7.trans (e8.trans (e9.trans (e10.trans (e11.trans (e12.trans (e13.trans e14))))))))
  have ht14 := ht11.mono (e12.trans (e13.trans e14))
  have hl14 := hl12.mono (e13.trans e14)
  have lL : (L.map (·.1)).length ≤ 1000 := by rw [List.length_map]; omega
  refine a_when (K := K) (b := !true || !decide (s1 = s1)) (et_orr (et_nt (et2 (er_call s1 (era_cons (er_v rfl) era_nil) rfl trivial))) fun _ => et1 (er_op (er_v rfl) (Er.to (er_call (K := K) (L.map (·.1), tg, false, ln) (era_cons (Er.n2l (er_var rfl hn14)) (era_cons (Er.n2l (er_var rfl ht14)) (era_cons (Er.as (er_var rfl hl14) fun _ _ z => n2s5 z) era_nil))) rfl ⟨⟨lL, tlen2⟩, hlm⟩) (congrArg Dd.i hs1)) ro_neI)) (fun hb => absurd hb (by simp)) fun _ H15 e15 => ?_
  obtain ⟨p7, hp7⟩ : ∃ p7 : Nat, hd.getD 7 0 % ((lg : Int) + 1) = (p7 : Int) := ⟨_, (Int.toNat_of_nonneg (Int.emod_nonneg _ (by omega))).symm⟩
  have E15 := e14.trans e15
  have hh15 := hh11.mono (e12.trans (e13.trans E15))
  refine a_asg (K := K) (d := sq5 bw (tsD (ln.drop p7))) (er_slE (n := p7) (er_var rfl (hw.mono E15)) (Er.to (er_op (er_cb (era_cons (athd (j := 7) (er_var rfl hh15) (by decide)) era_nil) rc_int) (er_op (er_v rfl) er_c ro_I0) (ro_mod (show (0 : Int) < (lg : Int) + 1 by omega))) (congrArg Dd.i hp7))) fun vpa H16 e16 hpa => ?_
  obtain ⟨s2, hs2⟩ : ∃ s2, sumM (nmV L) tg (ln.drop p7) = s2 := ⟨_, rfl⟩
  have E16 := E15.trans e16
  have hdm : ∀ m ∈ ln.drop p7, m ∈ L.map (·.1) := fun m h => hlm m (List.mem_of_mem_drop h)
  refine a_setv (K := K) (x := .int s2) (Er.to (er_call (K := K) (((z, L), (bg, tg), bw, ln.drop p7) : RcA) (era_cons (er_var rfl (hsh13.mono E16)) (era_cons (er_var rfl (hg13.mono E16)) (era_cons (er_var rfl hpa) era_nil))) rfl ⟨⟨stn, tlen⟩, by show (ln.drop p7).length ≤ 1000; rw [List.length_drop]; omega, hdm⟩) (congrArg Dd.i hs2)) fun H17 e17 => ?_
  refine st_eq (σ' := [some x, some vh, some (.int (many : Int)), some (.int (z : Int)), some va, some vn, some vst, some vt, some vp, some (.int (lg : Int)), some vl, some vsh, some vg, some vw, some (.int s1), some vpa, some (.int s2), none, none, none, none, none, none, none, none, none, none, none]) rfl ?_
  refine a_when (K := K) (b := !true || !decide (s2 = s2)) (et_orr (et_nt (et2 (er_call s2 (era_cons (er_v rfl) era_nil) rfl trivial))) fun _ => et1 (er_op (er_v rfl) (Er.to (er_call (K := K) (L.map (·.1), tg, bw, ln.drop p7) (era_cons (Er.n2l (er_var rfl (hn14.mono (e15.trans (e16.trans e17))))) (era_cons (Er.n2l (er_var rfl (ht14.mono (e15.trans (e16.trans e17))))) (era_cons (er_var rfl (hpa.mono e17)) era_nil))) rfl ⟨⟨lL, tlen2⟩, hdm⟩) (congrArg Dd.i hs2)) ro_neI)) (fun hb => absurd hb (by simp)) fun _ H18 e18 => ?_
  -- the order: a table of code objects grows
  have R18 := e15.trans (e16.trans (e17.trans e18))
  have ET : Ex A H18 := E10.trans (e11.trans (e12.trans (e13.trans (e14.trans R18))))
  have TT : LamX.TabS H18 Pt qP := t0.2.ext ET
  have hG0 : Ex G (hide Pt H18) := hide_of t0.1 (hA.trans ET)
  have gh : Is K (hide Pt H18) (.n (vis hd)) vh := Hid.n TT _ (hh15.mono (e16.trans (e17.trans e18)))
  have ga : Is K (hide Pt H18) (.n (vsl (L.map (·.1) ++ fu))) va := Hid.n TT _ (hva.mono (e5.trans (e6.trans (e7.trans (e8.trans (e9.trans (e10.trans (e11.trans (e12.trans (e13.trans (e14.trans R18)))))))))))
  have gn : Is K (hide Pt H18) (.n (vsl (L.map (·.1)))) vn := Hid.n TT _ (hn14.mono R18)
  have gt : Is K (hide Pt H18) (.n (vis tg)) vt := Hid.n TT _ (ht14.mono R18)
  have gl : Is K (hide Pt H18) (.n (vsl ln)) vl := Hid.n TT _ (hl14.mono R18)
  have gs : Is K (hide Pt H18) (stockC K C (z : Int) L) vsh := Hid.stock TT _ (hsh13.mono (e14.trans R18))
  have gg : Is K (hide Pt H18) (tgD bg tg) vg := Hid.tg TT _ (hg13.mono (e14.trans R18))
  have gw : Is K (hide Pt H18) (sq5 bw (tsD ln)) vw := Hid.s5 TT _ (hw.mono (e14.trans R18))
  have hx0 : Ex (hide Pt H18) H18 := hide_ex
  have tb0 := hide_tb TT
  generalize hide Pt H18 = G0 at hG0 gh ga gn gt gl gs gg gw hx0 tb0
  refine s_setT (K := K) (P := Pt) (q := qP) (G := G0) (d := .U (tsD (ordP (nmV L) tg))) (efT_call (((z, L), bg, tg) : PrB) (EfaT.of (efa_cons (ef_var rfl gs) (efa_cons (ef_var rfl gg) efa_nil))) rfl ⟨stn, tlen⟩) hx0 tb0 fun vo Gq Aq x1 x2 tq ho => ?_
  have hGq := hG0.trans x1
  replace gh := gh.mono x1
  replace ga := ga.mono x1
  replace gn := gn.mono x1
  replace gt := gt.mono x1
  replace gl := gl.mono x1
  replace gs := gs.mono x1
  replace gg := gg.mono x1
  replace gw := gw.mono x1
  have hou : Is K Gq (.u (vsl (ordP (nmV L) tg))) vo := Is.U2u (is_cast ho (by rw [← tsD_vsl]))
  clear hh hh3 hh8 hh11 hh15 hn hn9 hn14 ht ht11 ht14 hln hl12 hl14 hsh hsh13 hg hg13 hw hpa hva hst hpk hpk9 e1 e2 e3 e4 e5 e6 e7 e8 e9 e10 e11 e12 e13 e14 e15 e16 e17 e18 E5 E6 E7 E10 E15 E16 R18 ET TT hx0 tb0 hsA hs hG0
  refine st_eq (σ' := [some x, some vh, some (.int (many : Int)), some (.int (z : Int)), some va, some vn, some vst, some vt, some vp, some (.int (lg : Int)), some vl, some vsh, some vg, some vw, some (.int s1), some vpa, some (.int s2), some vo, none, none, none, none, none, none, none, none, none, none]) rfl ?_
  have nfew : (nmV L).length ≤ 1000 := lL
  have asc := ordP_asc stn.nd nfew tlen2 tp
  have okL : ∀ l ∈ L.map (·.1), okT l := fun l h => nameOk_okT (hN.ok l h).1
  have okO : ∀ t : List Int, ∀ l ∈ ordP (nmV L) t, okT l := fun t l h => okL l (ordP_mem.mp h)
  have okLn : ∀ l ∈ ln, okT l := fun l h => okL l (hlm l h)
  refine a_when (K := K) (b := !true) (et_nt (et2 (er_call (K := K) (L.map (·.1), tg, ordP (nmV L) tg) (era_cons (Er.n2l (er_var rfl (gn.mono x2))) (era_cons (Er.n2l (er_var rfl (gt.mono x2))) (era_cons (er_var rfl (hou.mono x2)) era_nil))) rfl asc))) (fun hb => absurd hb (by decide)) fun _ B1 y1 => ?_
  have X1 := x2.trans y1
  obtain ⟨kb, hkb⟩ : ∃ kb : Nat, (if ln.length = 0 then 1 else 0) = kb := ⟨_, rfl⟩
  have kb2 : kb = 0 ∨ kb = 1 := by
    rw [← hkb]
    split
    · exact .inr rfl
    · exact .inl rfl
  refine a_catNew (K := K) (xs := vsl ln) (zs := vsl (List.replicate kb [])) (er_var rfl (gl.mono X1)) (Er.to (er_op (er_lst (vs := [V.str (S [])]) (era_cons er_c era_nil) (by simp)) (Er.to (er_cb (era_cons (er_op (er_cb (era_cons (Er.n2l (er_var rfl (gl.mono X1))) era_nil) rc_lenLL) er_c ro_eqI) era_nil) rc_intB) (d' := .i (kb : Int)) ?k1) (ro_rep (k := kb) (by simp; omega) (by omega))) ?k2) (by simp [vsl, vss]; omega) fun lb B2 lb0 y2 hlb => ?_
  case k1 =>
    rw [← hkb]
    by_cases h : ln.length = 0
    · simp [h]
    · have h' : ¬ (ln.length : Int) = 0 := by omega
      rw [if_neg h, decide_eq_false h', if_neg Bool.false_ne_true]
      rfl
  case k2 => rcases kb2 with h | h <;> rw [h] <;> rfl
  have eb : ln ++ List.replicate kb [] = badL ln := by
    unfold badL
    rw [hkb]
  rw [← vsl_cat, eb] at hlb
  obtain ⟨bl1, bl2⟩ := badL_len (ln := ln)
  have aq0 : Aq lb = none := ex_out y1 lb0
  have X2 := X1.trans y2
  refine st_eq (σ' := [some x, some vh, some (.int (many : Int)), some (.int (z : Int)), some va, some vn, some vst, some vt, some vp, some (.int (lg : Int)), some vl, some vsh, some vg, some vw, some (.int s1), some vpa, some (.int s2), some vo, some (.ref lb), none, none, none, none, none, none, none, none, none]) rfl ?_
  have fuE : (vsl (L.map (·.1) ++ fu)).drop many = vsl fu := by rw [vsl_drop, ← hnl, List.drop_left]
  refine a_asg (K := K) (d := .n (vsl (strM ((L.map (·.1)).take 8) fu))) (er_call (K := K) ((L.map (·.1)).take 8, fu) (era_cons (Er.n2l (Er.to (er_cutTo (n := 8) (Er.n2l (er_var rfl (gn.mono X2))) er_c) (by rw [vsl_take]))) (era_cons (Er.to (er_cutFrom (n := many) (Er.n2l (er_var rfl (ga.mono X2))) (er_v rfl)) (by rw [fuE])) era_nil)) rfl ⟨⟨by show ((L.map (·.1)).take 8).length ≤ 100; rw [List.length_take]; omega, by show fu.length ≤ 100; omega⟩, fun n hn => (hN.ok n (List.mem_of_mem_take hn)).1⟩) fun vS B3 y3 hS => ?_
  obtain ⟨pS, rfl, hpS⟩ := hS
  have sno : ∀ s ∈ strM ((L.map (·.1)).take 8) fu, s ∉ nmV L := fun s hs hin => by
    rcases strM_no (fun n hn => (hN.ok n (List.mem_of_mem_take hn)).1) hs with h | h
    · exact hfn s h hin
    · rw [(hN.ok s hin).1] at h
      cases h
  have sl : (strM ((L.map (·.1)).take 8) fu).length = fu.length + 7 + 4 * ((L.map (·.1)).take 8).length := strM_len
  have sem : ([] : List Nat) ∈ strM ((L.map (·.1)).take 8) fu := by
    unfold strM
    simp [base7]
  generalize strM ((L.map (·.1)).take 8) fu = stg at hpS sno sl sem
  obtain ⟨o1, ho1, lo1⟩ : ∃ o1 : Nat, hd.getD 7 0 % ((badL ln).length : Int) = (o1 : Int) ∧ o1 < (badL ln).length := by
    obtain ⟨r1, r2⟩ := mod_nat (a := hd.getD 7 0) (n := (badL ln).length) (by omega)
    exact ⟨_, r1.symm, r2⟩
  obtain ⟨o2, ho2, lo2⟩ : ∃ o2 : Nat, hd.getD 8 0 % ((badL ln).length : Int) = (o2 : Int) ∧ o2 < (badL ln).length := by
    obtain ⟨r1, r2⟩ := mod_nat (a := hd.getD 8 0) (n := (badL ln).length) (by omega)
    exact ⟨_, r1.symm, r2⟩
  have X3 := X2.trans y3
  have lbad : ∀ {σ : L2.St} {H' : Hp} {bd : List (List Nat)}, H' lb = some (.lst (vsl bd)) → σ[18]? = some (some (.ref lb)) → Er K (tVar 18) σ H' (.n (vsl bd)) := fun h q => er_var q ⟨lb, rfl, h⟩
  have hlb3 := y3 _ _ hlb
  have bpos : (0 : Int) < ((badL ln).length : Int) := by omega
  refine a_setv (K := K) (x := .int (o1 : Int)) (Er.to (er_op (er_cb (era_cons (athd (j := 7) (er_var rfl (gh.mono X3)) (by decide)) era_nil) rc_int) (er_cb (era_cons (Er.n2l (lbad hlb3 rfl)) era_nil) rc_lenLL) (ro_mod bpos)) (congrArg Dd.i ho1)) fun B4 y4 => ?_
  refine a_setv (K := K) (x := .int (o2 : Int)) (Er.to (er_op (er_cb (era_cons (athd (j := 8) (er_var rfl (gh.mono (X3.trans y4))) (by decide)) era_nil) rc_int) (er_cb (era_cons (Er.n2l (lbad (y4 _ _ hlb3) rfl)) era_nil) rc_lenLL) (ro_mod bpos)) (congrArg Dd.i ho2)) fun B5 y5 => ?_
  refine st_eq (σ' := [some x, some vh, some (.int (many : Int)), some (.int (z : Int)), some va, some vn, some vst, some vt, some vp, some (.int (lg : Int)), some vl, some vsh, some vg, some vw, some (.int s1), some vpa, some (.int s2), some vo, some (.ref lb), some (.ref pS), some (.int (o1 : Int)), some (.int (o2 : Int)), none, none, none, none, none, none]) rfl ?_
  have hne : pS ≠ lb := fun z => by
    rw [z, hlb3] at hpS
    have e := HO.lst.inj (Option.some.inj hpS)
    have e2 : badL ln = stg := by
      have := List.map_inj_right (f := V.str) (fun a b h => V.str.inj h) |>.mp e
      exact List.map_inj_right (f := S) (fun a b h => S_inj h) |>.mp this
    rw [← e2] at sem sl
    unfold badL at sem sl
    rw [List.length_append, List.length_replicate] at sl
    rcases List.mem_append.mp sem with h | h
    · have := (name_parts (hN.ok _ (hlm _ h)).1).1
      simp at this
    · rw [hkb] at sl h
      rcases kb2 with q | q
      · rw [q] at h
        simp at h
      · rw [q] at sl hkb
        split at hkb
        · omega
        · cases hkb
  have y35 := y4.trans y5
  have hlb5 := y35 _ _ hlb3
  have w0 : Ex Aq (hide lb B5) := hide_of aq0 (y1.trans (y2.trans (y3.trans y35)))
  have wl : hide lb B5 lb = none := by
    unfold hide
    rw [if_pos rfl]
  have wx : Ex (hide lb B5) B5 := hide_ex
  have hSW : Is K (hide lb B5) (.n (vsl stg)) (.ref pS) := ⟨pS, rfl, by
    unfold hide
    rw [if_neg hne]
    exact y35 pS _ hpS⟩
  generalize hide lb B5 = W at w0 wl wx hSW
  have XW := x2.trans w0
  have spos : (0 : Int) < (stg.length : Int) := by omega
  have pick : ∀ j : Nat, ∃ k1 : Nat, hd.getD j 0 % (stg.length : Int) = (k1 : Int) ∧ k1 < stg.length := fun j => by
    obtain ⟨r1, r2⟩ := mod_nat (a := hd.getD j 0) (n := stg.length) (by omega)
    exact ⟨_, r1.symm, r2⟩
  obtain ⟨k1, hk1, lk1⟩ := pick 12
  obtain ⟨k2, hk2, lk2⟩ := pick 13
  have strg : ∀ {σ : L2.St} {H' : Hp} {j k : Nat}, Ex W H' → σ[1]? = some (some vh) → σ[19]? = some (some (.ref pS)) → j < 14 → hd.getD j 0 % (stg.length : Int) = (k : Int) → k < stg.length → Er K (tOp (rIxL K) (tVar 19) (tOp (rI (fun _ j => 0 < j) fun i j => .int (i % j)) (tCB rInt1 (tCons (tOp (rIxL K) (tVar 1) (tC (.int (j : Int)))) tNil)) (tCB (rLenS K) (tCons (tVar 19) tNil)))) σ H' (.s (S (stg.getD k []))) := fun {σ H' j k} e q1 q19 hj hk1 lk => Er.to (er_op (er_var q19 (hSW.mono e)) (Er.to (er_op (er_cb (era_cons (athd (j := j) (er_var q1 (gh.mono (XW.trans e))) hj) era_nil) rc_int) (er_cb (era_cons (Er.n2l (er_var q19 (hSW.mono e))) era_nil) rc_lenLL) (ro_mod spos)) (congrArg Dd.i hk1)) (ro_ixSN (by omega) (by omega))) (by rw [Int.toNat_natCast])
  have lvs : ∀ B : List (List Nat), (vsl B).length = B.length := fun B => by simp [vsl, vss]
  refine a_setixS (K := K) (l := lb) (us := vsl (badL ln)) (i := o1) (x := .str (S (stg.getD k1 []))) (strg (j := 12) wx rfl rfl (by decide) hk1 lk1) (fun H1 e => er_v rfl) (er_v rfl) hlb5 (by rw [lvs]; exact lo1) fun B6 y6 => ?_
  rw [vsl_set]
  have w6 : Ex W (upd B6 lb (.lst (vsl ((badL ln).set o1 (stg.getD k1 []))))) := Ex.mut (wx.trans y6) wl
  refine a_setixS (K := K) (l := lb) (us := vsl ((badL ln).set o1 (stg.getD k1 []))) (i := o2) (x := .str (S (stg.getD k2 []))) (strg (j := 13) w6 rfl rfl (by decide) hk2 lk2) (fun H1 e => er_v rfl) (er_v rfl) upd_same (by rw [lvs, List.length_set]; exact lo2) fun B7 y7 => ?_
  rw [vsl_set]
  have w7 : Ex W (upd B7 lb (.lst (vsl (((badL ln).set o1 (stg.getD k1 [])).set o2 (stg.getD k2 []))))) := Ex.mut (w6.trans y7) wl
  have hb7 : upd B7 lb (.lst (vsl (((badL ln).set o1 (stg.getD k1 [])).set o2 (stg.getD k2 [])))) lb = some (.lst (vsl (((badL ln).set o1 (stg.getD k1 [])).set o2 (stg.getD k2 [])))) := upd_same
  have hfind := bad_first (ns := nmV L) hlm lo1 lo2 (sno _ (mem_getD (z := []) lk1)) (sno _ (mem_getD (z := []) lk2))
  have bdl : (((badL ln).set o1 (stg.getD k1 [])).set o2 (stg.getD k2 [])).length = (badL ln).length := by simp
  generalize ((badL ln).set o1 (stg.getD k1 [])).set o2 (stg.getD k2 []) = bd at w7 hb7 hfind bdl
  generalize upd B7 lb (.lst (vsl bd)) = B8 at w7 hb7
  have hbN : badN L bd = bd.getD (min o1 o2) [] := by
    unfold badN
    rw [hfind]
    rfl
  have hbo : okN L bd = false := by
    rw [List.all_eq_false]
    exact ⟨_, List.mem_of_find?_eq_some hfind, by simpa using List.find?_some hfind⟩
  clear w6 y6 y7 hlb hlb3 hlb5 wx y35 X1 X2 X3
  have XW := x2.trans w0
  have X8 := XW.trans w7
  have hbd8 : ∀ {B : Hp}, Ex B8 B → B lb = some (.lst (vsl bd)) := fun e => e _ _ hb7
  have pR : ∀ {b : Bool} {t : List Int}, (StN L ∧ bd.length ≤ 1000) := ⟨stn, by omega⟩
  refine a_when (K := K) (b := !true) (et_nt (et2 (er_call (K := K) (((z, L), (bg, tg), false, bd) : RcA) (era_cons (er_var rfl (gs.mono X8)) (era_cons (er_var rfl (gg.mono X8)) (era_cons (Er.as (d := .n (vsl bd)) (er_cb (era_cons (Er.n2l (lbad hb7 rfl)) era_nil) rc_listL) fun _ _ z => n2s5 z) (era_cons (Er.to (er_op (lbad hb7 rfl) (er_cb (era_cons (er_v rfl) (era_cons (er_v rfl) era_nil)) rc_min2) (ro_ixSN (i := (if (o2 : Int) < (o1 : Int) then (o2 : Int) else (o1 : Int))) (by split <;> omega) (by split <;> omega))) ?m1) era_nil)))) rfl ⟨⟨stn, by show bd.length ≤ 1000; omega⟩, tlen, hbo⟩))) (fun hb => absurd hb (by decide)) fun _ B9 y9 => ?_
  case m1 =>
    have hmn : (if (o2 : Int) < (o1 : Int) then (o2 : Int) else (o1 : Int)).toNat = min o1 o2 := by
      split <;> omega
    show Dd.s (S (bd.getD (if (o2 : Int) < (o1 : Int) then (o2 : Int) else (o1 : Int)).toNat [])) = Dd.s (S (badN L bd))
    rw [hbN, hmn]
  have X9 := X8.trans y9
  obtain ⟨c0, c8, cne⟩ := mis_ok many d6 b6
  obtain ⟨ct, hct⟩ : ∃ ct : Nat, misM (many : Int) d6 = (ct : Int) := ⟨_, (Int.toNat_of_nonneg c0).symm⟩
  rw [hct] at c0 c8 cne
  refine a_setv (K := K) (x := .int (ct : Int)) (Er.to (er_call (K := K) (many, d6) (era_cons (er_v rfl) (era_cons (Er.to (athd (j := 6) (er_var rfl (gh.mono X9)) (by decide)) (congrArg Dd.i q6)) era_nil)) rfl b6) (congrArg Dd.i hct)) fun B10 y10 => ?_
  refine st_eq (σ' := [some x, some vh, some (.int (many : Int)), some (.int (z : Int)), some va, some vn, some vst, some vt, some vp, some (.int (lg : Int)), some vl, some vsh, some vg, some vw, some (.int s1), some vpa, some (.int s2), some vo, some (.ref lb), some (.ref pS), some (.int (o1 : Int)), some (.int (o2 : Int)), some (.int (ct : Int)), none, none, none, none, none]) rfl ?_
  have X10 := X9.trans y10
  refine a_asg (K := K) (d := .n (vis ((List.range ct).map fun k : Nat => (tg ++ [5]).getD (k % (many + 1)) 0))) (Er.to (er_lcR' (K := K) (n := ct) (vs := [27]) (fun k => V.int ((tg ++ [5]).getD (k % (many + 1)) 0)) (era_cons (er_v rfl) era_nil) (by omega) (fun _ => rfl) (fun k Hk ek hk3 => ?_)) (by simp only [vis, List.map_map]; rfl)) fun vW B11 y11 hW => ?_
  · have hk1 : k % (many + 1) < many + 1 := Nat.mod_lt _ (by omega)
    refine er_numN (n := k % (many + 1)) (Er.to (er_op (er_var (d := .n (vis tg)) rfl (gt.mono (X10.trans ek))) (er_lst (vs := vis [5]) (era_cons er_c era_nil) (by decide)) (ro_cat (by simp; omega))) (by rw [vis, vis, vis, List.map_append])) (Er.to (er_op (er_v rfl) (er_op (er_v rfl) er_c ro_I0) (ro_mod (show (0 : Int) < (many : Int) + 1 by omega))) (congrArg Dd.i (show (k : Int) % ((many : Int) + 1) = ((k % (many + 1) : Nat) : Int) by rw [Int.natCast_emod]; rfl))) (by rw [List.length_append, tl]; exact hk1)
  have wrl : ((List.range ct).map fun k : Nat => (tg ++ [5]).getD (k % (many + 1)) 0).length = ct := by simp
  generalize ((List.range ct).map fun k : Nat => (tg ++ [5]).getD (k % (many + 1)) 0) = wr at hW wrl
  have wrn : wr.length ≠ L.length := by omega
  have X11 := X10.trans y11
  refine a_when (K := K) (b := !true || !true) (et_orr (et_nt (et2 (er_call (K := K) (((z, L), (false, wr), bw, ln) : RcA) (era_cons (er_var rfl (gs.mono X11)) (era_cons (Er.n2l (er_var rfl hW)) (era_cons (er_var rfl (gw.mono X11)) era_nil))) rfl ⟨⟨stn, by show ln.length ≤ 1000; omega⟩, wrn⟩))) fun _ => et_nt (et2 (er_call (K := K) (((z, L), (true, wr), false, bd) : RcA) (era_cons (er_var rfl (gs.mono X11)) (era_cons (er_cb (era_cons (er_var rfl hW) era_nil) rc_tupN) (era_cons (Er.as (lbad (hbd8 (y9.trans (y10.trans y11))) rfl) fun _ _ z => n2s5 z) era_nil))) rfl ⟨⟨stn, by show bd.length ≤ 1000; omega⟩, wrn⟩))) (fun hb => absurd hb (by decide)) fun _ B12 y12 => ?_
  have X12 := X11.trans y12
  refine a_when (K := K) (b := !true) (et_nt (et2 (er_call (K := K) (((z, L), false, wr) : PrB) (era_cons (er_var rfl (gs.mono X12)) (era_cons (Er.n2l (er_var rfl (hW.mono y12))) era_nil)) rfl ⟨stn, wrn⟩))) (fun hb => absurd hb (by decide)) fun _ B13 y13 => ?_
  have X13 := X12.trans y13
  refine a_when (K := K) (b := !decide (tg = tg) || (!decide (ln = ln) || !decide ((ct : Int) = (ct : Int)))) (et_orr (et1 (er_op (Er.n2l (er_cb (era_cons (er_var rfl (gg.mono X13)) era_nil) rc_listP)) (Er.n2l (er_var rfl (gt.mono X13))) ro_neL)) fun _ => et_orr (et1 (er_op (Er.n2l (Er.as (er_cb (era_cons (er_var rfl (gw.mono X13)) era_nil) rc_listR) fun _ _ z => Is.N2n (is_cast z (by rw [← tsD_vsl])))) (Er.n2l (er_var rfl (gl.mono X13))) (ro_neLs okLn okLn))) fun _ => et1 (er_op (Er.to (er_cb (era_cons (er_var rfl (hW.mono (y12.trans y13))) era_nil) rc_lenN) (congrArg Dd.i (by rw [List.length_map, wrl]))) (er_v rfl) ro_neI)) (fun hb => absurd hb (by simp)) fun _ B14 y14 => ?_
  have X14 := X13.trans y14
  refine a_listNew (K := K) (xs := vis tg) (Er.n2l (er_var rfl (gt.mono X14))) fun c1 B15 n1 y15 h15 => ?_
  refine st_eq (σ' := [some x, some vh, some (.int (many : Int)), some (.int (z : Int)), some va, some vn, some vst, some vt, some vp, some (.int (lg : Int)), some vl, some vsh, some vg, some vw, some (.int s1), some vpa, some (.int s2), some vo, some (.ref lb), some (.ref pS), some (.int (o1 : Int)), some (.int (o2 : Int)), some (.int (ct : Int)), some vW, some (.ref c1), none, none, none]) rfl ?_
  refine a_listNew (K := K) (xs := vis tg) (Er.n2l (er_var rfl (gt.mono (X14.trans y15)))) fun c2 B16 n2 y16 h16 => ?_
  refine st_eq (σ' := [some x, some vh, some (.int (many : Int)), some (.int (z : Int)), some va, some vn, some vst, some vt, some vp, some (.int (lg : Int)), some vl, some vsh, some vg, some vw, some (.int s1), some vpa, some (.int s2), some vo, some (.ref lb), some (.ref pS), some (.int (o1 : Int)), some (.int (o2 : Int)), some (.int (ct : Int)), some vW, some (.ref c1), some (.ref c2), none, none]) rfl ?_
  have X16 := X14.trans (y15.trans y16)
  have h15' := y16 _ _ h15
  have g1 : Gq c1 = none := ex_out X14 n1
  have g2 : Gq c2 = none := ex_out (X14.trans y15) n2
  have c12 : c1 ≠ c2 := fun z => by rw [z, n2] at h15; cases h15
  have aqB : Ex Aq B16 := w0.trans (w7.trans (y9.trans (y10.trans (y11.trans (y12.trans (y13.trans (y14.trans (y15.trans y16))))))))
  have tb16 : Tb Pt qP Gq B16 := ⟨tq.1, tq.2.ext aqB⟩
  obtain ⟨eg2, ex2, tb2⟩ := two_view (q := qP) g1 g2 c12 X16 tb16 h15' h16
  have k1a : upd (upd Gq c1 (.lst (vis tg))) c2 (.lst (vis tg)) c1 = some (.lst (vis tg)) := by rw [upd_ne c12]; exact upd_same
  have k2a : upd (upd Gq c1 (.lst (vis tg))) c2 (.lst (vis tg)) c2 = some (.lst (vis tg)) := upd_same
  generalize upd (upd Gq c1 (.lst (vis tg))) c2 (.lst (vis tg)) = G2 at eg2 ex2 tb2 k1a k2a
  have ag2 : Is K G2 (.l (vis tg)) (.ref c2) := Is.n2l ⟨c2, rfl, k2a⟩
  refine s_whenT (P := Pt) (q := qP) (G := G2) (b := !decide (s1 = s1) || !decide (ordP (nmV L) tg = ordP (nmV L) tg)) (etT_orr (etT_of fun A' ea => et1 (er_op (Er.to (er_call (K := K) (((z, L), (false, tg), bw, ln) : RcA) (era_cons (er_var rfl (gs.mono (eg2.trans ea))) (era_cons (er_var rfl (ag2.mono ea)) (era_cons (er_var rfl (gw.mono (eg2.trans ea))) era_nil))) rfl ⟨⟨stn, tlen⟩, by show ln.length ≤ 1000; omega, hlm⟩) (congrArg Dd.i hs1)) (er_v rfl) ro_neI)) fun _ => etT_t (efT_op (EfT.as (efT_call (((z, L), false, tg) : PrB) (EfaT.of (efa_cons (ef_var rfl (gs.mono eg2)) (efa_cons (ef_var rfl ag2) efa_nil))) rfl ⟨stn, tlen⟩) fun _ _ z => Is.U2u (is_cast z (by rw [← tsD_vsl]))) (EfT.of (ef_var rfl (hou.mono eg2))) (rof_of (ro_neUs (okO tg) (okO tg))))) ex2 tb2 (fun hb => absurd hb (by simp)) fun _ G3 A3 z1' z2' t3 => ?_
  have a1 := z2' _ _ (z1' _ _ k1a)
  have a2 := z2' _ _ (z1' _ _ k2a)
  have g3 : Ex Gq A3 := eg2.trans (z1'.trans z2')
  refine a_whenR (K := K) (fun σ2 H2 => σ2 = [some x, some vh, some (.int (many : Int)), some (.int (z : Int)), some va, some vn, some vst, some vt, some vp, some (.int (lg : Int)), some vl, some vsh, some vg, some vw, some (.int s1), some vpa, some (.int s2), some vo, some (.ref lb), some (.ref pS), some (.int (o1 : Int)), some (.int (o2 : Int)), some (.int (ct : Int)), some vW, some (.ref c1), some (.ref c2), none, none] ∧ ∃ tg2 : List Int, tg2.length = tg.length ∧ (∀ t ∈ tg2, 0 ≤ t) ∧ Ex Gq H2 ∧ H2 c1 = some (.lst (vis tg2)) ∧ H2 c2 = some (.lst (vis tg2)) ∧ LamX.TabS H2 Pt qP) (b := decide ((many : Int) > 0)) (et1 (er_op (er_v rfl) er_c ro_I0)) ?u1 ?u2 ?u3
  case u3 => exact fun _ H2 e => ⟨rfl, tg, rfl, tp, g3.trans e, e _ _ a1, e _ _ a2, t3.2.ext e⟩
  case u2 =>
    intro hr2 hb H2 e
    have hm0 : 0 < many := by
      have := of_decide_eq_true hb
      omega
    obtain ⟨j9, hj9, lj9⟩ : ∃ j : Nat, hd.getD 9 0 % (many : Int) = (j : Int) ∧ j < many := by
      obtain ⟨r1, r2⟩ := mod_nat (a := hd.getD 9 0) (n := many) hm0
      exact ⟨_, r1.symm, r2⟩
    have mpos : (0 : Int) < (many : Int) := by omega
    have lvt : (vis tg).length = many := by rw [List.length_map, tl]
    have i9 : ∀ {σ : L2.St} {H' : Hp}, Ex Gq H' → σ[1]? = some (some vh) → σ[2]? = some (some (.int (many : Int))) → Er K (tOp (rI (fun _ j => 0 < j) fun i j => .int (i % j)) (tCB rInt1 (tCons (tOp (rIxL K) (tVar 1) (tC (.int 9))) tNil)) (tVar 2)) σ H' (.i (j9 : Int)) := fun e q1 q2 => Er.to (er_op (er_cb (era_cons (athd (j := 9) (er_var q1 (gh.mono e)) (by decide)) era_nil) rc_int) (er_v q2) (ro_mod mpos)) (congrArg Dd.i hj9)
    have g32 := g3.trans e
    refine a_setixS (K := K) (l := c1) (us := vis tg) (i := j9) (x := .int (hd.getD 10 0)) (athd (j := 10) (er_var rfl (gh.mono g32)) (by decide)) (fun H1 e => er_v rfl) (i9 g32 rfl rfl) (e _ _ a1) (by rw [lvt]; exact lj9) fun H3 e3 => ?_
    rw [vis_set]
    have g4 : Ex Gq (upd H3 c1 (.lst (vis (tg.set j9 (hd.getD 10 0))))) := Ex.mut (g32.trans e3) g1
    have a22 : upd H3 c1 (.lst (vis (tg.set j9 (hd.getD 10 0)))) c2 = some (.lst (vis tg)) := by
      rw [upd_ne (Ne.symm c12)]
      exact e3 _ _ (e _ _ a2)
    have T3 : LamX.TabS (upd H3 c1 (.lst (vis (tg.set j9 (hd.getD 10 0))))) Pt qP := tabS_mut ((t3.2.ext e).ext e3) (e3 _ _ (e _ _ a1))
    refine a_setix (K := K) (l := c2) (us := vis tg) (i := j9) (x := .int (hd.getD 10 0)) (athd (j := 10) (er_var rfl (gh.mono g4)) (by decide)) (fun H1 e => er_v rfl) (i9 g4 rfl rfl) a22 (by rw [lvt]; exact lj9) fun H4 e4 => ?_
    rw [vis_set]
    refine hr2 _ _ ⟨rfl, tg.set j9 (hd.getD 10 0), by simp, fun t ht => ?_, Ex.mut (g4.trans e4) g2, ?_, upd_same, tabS_mut (T3.ext e4) (e4 _ _ a22)⟩
    · rcases List.mem_or_eq_of_mem_set ht with h | h
      · exact tp t h
      · rw [h, q10]
        omega
    · rw [upd_ne c12]
      exact e4 _ _ upd_same
  case u1 =>
    rintro σ2 H2 ⟨rfl, tg2, l2, p2, gq, k1, k2, T2⟩
    have tlen' : tg2.length = L.length := by omega
    have tlen2' : tg2.length = (nmV L).length := by omega
    obtain ⟨s3, hs3⟩ : ∃ s3, sumM (nmV L) tg2 ln = s3 := ⟨_, rfl⟩
    refine a_setv (K := K) (x := .int s3) (Er.to (er_call (K := K) (((z, L), (false, tg2), bw, ln) : RcA) (era_cons (er_var rfl (gs.mono gq)) (era_cons (Er.n2l (er_var (d := .n (vis tg2)) rfl ⟨c2, rfl, k2⟩)) (era_cons (er_var rfl (gw.mono gq)) era_nil))) rfl ⟨⟨stn, tlen'⟩, by show ln.length ≤ 1000; omega, hlm⟩) (congrArg Dd.i hs3)) fun H3 e3 => ?_
    refine st_eq (σ' := [some x, some vh, some (.int (many : Int)), some (.int (z : Int)), some va, some vn, some vst, some vt, some vp, some (.int (lg : Int)), some vl, some vsh, some vg, some vw, some (.int s1), some vpa, some (.int s2), some vo, some (.ref lb), some (.ref pS), some (.int (o1 : Int)), some (.int (o2 : Int)), some (.int (ct : Int)), some vW, some (.ref c1), some (.ref c2), some (.int s3), none]) rfl ?_
    have gq3 := gq.trans e3
    refine a_when (K := K) (b := !true || !decide (s3 = s3)) (et_orr (et_nt (et2 (er_call s3 (era_cons (er_v rfl) era_nil) rfl trivial))) fun _ => et1 (er_op (er_v rfl) (Er.to (er_call (K := K) (L.map (·.1), tg2, false, ln) (era_cons (Er.n2l (er_var rfl (gn.mono gq3))) (era_cons (Er.n2l (er_var (d := .n (vis tg2)) rfl ⟨c1, rfl, e3 _ _ k1⟩)) (era_cons (Er.as (er_var rfl (gl.mono gq3)) fun _ _ z => n2s5 z) era_nil))) rfl ⟨⟨lL, tlen2'⟩, hlm⟩) (congrArg Dd.i hs3)) ro_neI)) (fun hb => absurd hb (by simp)) fun _ H4 e4 => ?_
    have e34 := e3.trans e4
    obtain ⟨eg4, ex4, tb4⟩ := two_view (q := qP) g1 g2 c12 (gq3.trans e4) ⟨tq.1, T2.ext e34⟩ (e34 _ _ k1) (e34 _ _ k2)
    have k1b : upd (upd Gq c1 (.lst (vis tg2))) c2 (.lst (vis tg2)) c1 = some (.lst (vis tg2)) := by rw [upd_ne c12]; exact upd_same
    have k2b : upd (upd Gq c1 (.lst (vis tg2))) c2 (.lst (vis tg2)) c2 = some (.lst (vis tg2)) := upd_same
    generalize upd (upd Gq c1 (.lst (vis tg2))) c2 (.lst (vis tg2)) = G4 at eg4 ex4 tb4 k1b k2b
    have ch : Is K G4 (.l (vis tg2)) (.ref c1) := Is.n2l ⟨c1, rfl, k1b⟩
    have ag : Is K G4 (.l (vis tg2)) (.ref c2) := Is.n2l ⟨c2, rfl, k2b⟩
    exact s_retT (K := K) (P := Pt) (q := qP) (G := G4) (d' := .b true) (efT_andV (a := true) (b := decide (tg2 = tg2)) (efT_callR (ret := fun _ => V.bl true) (L.map (·.1), tg2, ordP (nmV L) tg2) (efaT_cons (EfT.of (ef_var rfl (gn.mono eg4).n2l)) (efaT_cons (EfT.of (ef_var rfl ch)) (efaT_cons (EfT.as (efT_call (((z, L), false, tg2) : PrB) (EfaT.of (efa_cons (ef_var rfl (gs.mono eg4)) (efa_cons (ef_var rfl ag) efa_nil))) rfl ⟨stn, tlen'⟩) fun _ _ z => Is.U2u (is_cast z (by rw [← tsD_vsl]))) efaT_nil))) rfl (ordP_asc stn.nd nfew tlen2' p2)) fun _ => efT_op (EfT.of (ef_var rfl ag)) (EfT.of (ef_var rfl ch)) (rof_of ro_eqL)) ex4 tb4 (by simp) fun v G' A' u1 u2 u3 zz => hk v G' A' (hGq.trans (eg4.trans u1)) u2 u3 zz
end
end Mi

set_option maxHeartbeats 4000000
namespace Mi
open PySem PySem.Spec PyProof.Rows L2 Evl
section
variable {K : PySem.W.Frag} {C D : Addr}
theorem kit_two {t c1 c2 : Value} (h1 : PySem.W.kitOne K t c1 = some false) (h2 : PySem.W.kitOne K t c2 = some false) : PySem.W.kitAny K t [c1, c2] = some false := by
  unfold PySem.W.kitAny
  rw [h1]
  show PySem.W.kitAny K t [c2] = some false
  unfold PySem.W.kitAny
  rw [h2]
  rfl
theorem kit_yes (hd : (PySem.W.clsIn K D).isSome = true) (ht : PySem.W.typeIn K (.ref D) = some (.type "type")) (h : PySem.W.mroIn K C (.ref D) = some true) : PySem.W.kitOne K (.ref C) (.ref D) = some true := by
  unfold PySem.W.kitOne
  split
  · rfl
  · show (if ((PySem.W.clsIn K D).isSome && PySem.W.typeIn K (.ref D) == some (.type "type")) = true then PySem.W.mroIn K C (.ref D) else none) = some true
    rw [hd, ht, if_pos (by rfl), h]
end
/-! ### the end: the table of price_order's lambdas is empty -/
theorem law_at {l : PySem.W.OpenLaw} {w : World} {K : PySem.W.Frag} {mg : Str → Option Value} {fa c Pt : Addr} {h : Heap} (hc : PySem.W.CodeHd h c Pt) (hP : h.get? Pt = some (PySem.W.tabObj #[])) (nK : K.lookup Pt = none)
    (hr : ∃ fd : FuncData, (∀ (s : Shared) (v : Value), BindsTo s fd ⟨[v], []⟩ [("script", v)]) ∧ ∀ base : Heap, K.In base → base.Ns mainGlobals mg → LamX.TabB base mg c Pt → FnOk l.prog w K mg base CX0 6 fa fd ["script"] (spLawT K Pt)) : LamX.LawAtS l w K CX0 6 63 "script" mg fa h := by
  obtain ⟨fd, hb, hF⟩ := hr
  refine ⟨fd, [(c, Pt)], spLawT K Pt, fun p hp => ?_, fun p hp => ?_, fun p hp => ?_, hb, fun H a ns hl hbits hH hS => ?_, fun base h1 h2 h3 => hF base h1 h2 (h3 (c, Pt) List.mem_cons_self)⟩
  · rw [List.mem_singleton.mp hp]
    exact hP
  · rw [List.mem_singleton.mp hp]
    exact nK
  · rw [List.mem_singleton.mp hp]
    exact hc
  · have e : H Pt = some (.tbl #[]) := hH (c, Pt) List.mem_cons_self
    have t : LamX.TabS H Pt qP := ⟨#[], e, True.intro, fun pos cv hc => by
      have z : codeAmong pos [] = some cv := hc
      simp [codeAmong] at z⟩
    exact ⟨ns, hide Pt H, hl, hide_ex, hide_tb t, .cons ⟨a, rfl, sqL_hide t hS⟩ .nil, fun v G' A' _ _ _ z => z⟩
end Mi

set_option maxHeartbeats 4000000
namespace Mi
open PySem PySem.Spec PyProof.Rows L2 Evl
theorem at_mk {K : PySem.W.Frag} {h : Heap} {mg : Str → Option Value} {x : Str} {st : Stmt} {ps : List Str} {f : Addr} {od an : Option Addr} {sl : Array (Option Value)} {oc kV dc pm cd ct : Value} (X : K.In h) (G : h.Ns mainGlobals mg)
    (a : PySem.W.nsIn K mainGlobals x = some (some (.ref f))) (l : K.lookup f = some ⟨oc, od, .func (PySem.W.fnOf x x (defArgs st) (defBody st) (defScope st) .none kV dc pm an cd ct), sl⟩) (c : PySem.W.codeIn K cd x = true) (k : PySem.W.keepIn K (.ref f) = true)
    (b0 : ∀ (kV dc pm : Value) (an : Option Addr) (cd ct : Value) (us : List Value), us.length = ps.length → bindArgs (PySem.W.fnOf x x (defArgs st) (defBody st) (defScope st) .none kV dc pm an cd ct) ⟨us, []⟩ = pure (ps.zip us))
    (b1 : ∀ (kV dc pm : Value) (an : Option Addr) (cd ct : Value), ps.length = 1 → ∀ w1 : Value, bindArgs (PySem.W.fnOf x x (defArgs st) (defBody st) (defScope st) .none kV dc pm an cd ct) ⟨[], ps.zip [w1]⟩ = pure (ps.zip [w1]))
    (b2 : ∀ (kV dc pm : Value) (an : Option Addr) (cd ct : Value), ∀ p q, ps = [p, q] → ∀ w1 w2 : Value, bindArgs (PySem.W.fnOf x x (defArgs st) (defBody st) (defScope st) .none kV dc pm an cd ct) ⟨[], [q, p].zip [w1, w2]⟩ = pure ([p, q].zip [w2, w1])) : At K mg x st ps := by
  have F := fun_mk (st := st) l c k
  exact ⟨_, _, PySem.W.mg_of X G a, F, Binds.all (b0 _ _ _ _ _ _), fun e _ w1 => .of_eq (b1 _ _ _ _ _ _ e w1), fun p q e _ w1 w2 => .of_eq (b2 _ _ _ _ _ _ p q e w1 w2)⟩
theorem at_as_tuples {K : PySem.W.Frag} {h : Heap} {mg : Str → Option Value} {f : Addr} {od an : Option Addr} {sl : Array (Option Value)} {oc kV dc pm cd ct : Value} (X : K.In h) (G : h.Ns mainGlobals mg) (a : PySem.W.nsIn K mainGlobals "as_tuples" = some (some (.ref f))) (l : K.lookup f = some ⟨oc, od, .func (PySem.W.fnOf "as_tuples" "as_tuples" (defArgs s_as_tuples) (defBody s_as_tuples) (defScope s_as_tuples) .none kV dc pm an cd ct), sl⟩) (c : PySem.W.codeIn K cd "as_tuples" = true) (k : PySem.W.keepIn K (.ref f) = true) : At K mg "as_tuples" s_as_tuples ["value"] :=
  at_mk X G a l c k (fun _ _ _ _ _ _ us hl => match us, hl with | [_], _ => rfl) (fun _ _ _ _ _ _ _ _ => rfl) (fun _ _ _ _ _ _ p q e => by cases e)
theorem at_is_layer {K : PySem.W.Frag} {h : Heap} {mg : Str → Option Value} {f : Addr} {od an : Option Addr} {sl : Array (Option Value)} {oc kV dc pm cd ct : Value} (X : K.In h) (G : h.Ns mainGlobals mg) (a : PySem.W.nsIn K mainGlobals "is_layer" = some (some (.ref f))) (l : K.lookup f = some ⟨oc, od, .func (PySem.W.fnOf "is_layer" "is_layer" (defArgs s_is_layer) (defBody s_is_layer) (defScope s_is_layer) .none kV dc pm an cd ct), sl⟩) (c : PySem.W.codeIn K cd "is_layer" = true) (k : PySem.W.keepIn K (.ref f) = true) : At K mg "is_layer" s_is_layer ["value"] :=
  at_mk X G a l c k (fun _ _ _ _ _ _ us hl => match us, hl with | [_], _ => rfl) (fun _ _ _ _ _ _ _ _ => rfl) (fun _ _ _ _ _ _ p q e => by cases e)
theorem at_cells_of {K : PySem.W.Frag} {h : Heap} {mg : Str → Option Value} {f : Addr} {od an : Option Addr} {sl : Array (Option Value)} {oc kV dc pm cd ct : Value} (X : K.In h) (G : h.Ns mainGlobals mg) (a : PySem.W.nsIn K mainGlobals "cells_of" = some (some (.ref f))) (l : K.lookup f = some ⟨oc, od, .func (PySem.W.fnOf "cells_of" "cells_of" (defArgs s_cells_of) (defBody s_cells_of) (defScope s_cells_of) .none kV dc pm an cd ct), sl⟩) (c : PySem.W.codeIn K cd "cells_of" = true) (k : PySem.W.keepIn K (.ref f) = true) : At K mg "cells_of" s_cells_of ["one"] :=
  at_mk X G a l c k (fun _ _ _ _ _ _ us hl => match us, hl with | [_], _ => rfl) (fun _ _ _ _ _ _ _ _ => rfl) (fun _ _ _ _ _ _ p q e => by cases e)
theorem at_is_name {K : PySem.W.Frag} {h : Heap} {mg : Str → Option Value} {f : Addr} {od an : Option Addr} {sl : Array (Option Value)} {oc kV dc pm cd ct : Value} (X : K.In h) (G : h.Ns mainGlobals mg) (a : PySem.W.nsIn K mainGlobals "is_name" = some (some (.ref f))) (l : K.lookup f = some ⟨oc, od, .func (PySem.W.fnOf "is_name" "is_name" (defArgs s_is_name) (defBody s_is_name) (defScope s_is_name) .none kV dc pm an cd ct), sl⟩) (c : PySem.W.codeIn K cd "is_name" = true) (k : PySem.W.keepIn K (.ref f) = true) : At K mg "is_name" s_is_name ["value"] :=
  at_mk X G a l c k (fun _ _ _ _ _ _ us hl => match us, hl with | [_], _ => rfl) (fun _ _ _ _ _ _ _ _ => rfl) (fun _ _ _ _ _ _ p q e => by cases e)
theorem at_is_stamp {K : PySem.W.Frag} {h : Heap} {mg : Str → Option Value} {f : Addr} {od an : Option Addr} {sl : Array (Option Value)} {oc kV dc pm cd ct : Value} (X : K.In h) (G : h.Ns mainGlobals mg) (a : PySem.W.nsIn K mainGlobals "is_stamp" = some (some (.ref f))) (l : K.lookup f = some ⟨oc, od, .func (PySem.W.fnOf "is_stamp" "is_stamp" (defArgs s_is_stamp) (defBody s_is_stamp) (defScope s_is_stamp) .none kV dc pm an cd ct), sl⟩) (c : PySem.W.codeIn K cd "is_stamp" = true) (k : PySem.W.keepIn K (.ref f) = true) : At K mg "is_stamp" s_is_stamp ["value", "size"] :=
  at_mk X G a l c k (fun _ _ _ _ _ _ us hl => match us, hl with | [_, _], _ => rfl) (fun _ _ _ _ _ _ e => absurd e (by decide)) (fun _ _ _ _ _ _ p q e w1 w2 => by cases e; rfl)
theorem at_check_pairs {K : PySem.W.Frag} {h : Heap} {mg : Str → Option Value} {f : Addr} {od an : Option Addr} {sl : Array (Option Value)} {oc kV dc pm cd ct : Value} (X : K.In h) (G : h.Ns mainGlobals mg) (a : PySem.W.nsIn K mainGlobals "check_pairs" = some (some (.ref f))) (l : K.lookup f = some ⟨oc, od, .func (PySem.W.fnOf "check_pairs" "check_pairs" (defArgs s_check_pairs) (defBody s_check_pairs) (defScope s_check_pairs) .none kV dc pm an cd ct), sl⟩) (c : PySem.W.codeIn K cd "check_pairs" = true) (k : PySem.W.keepIn K (.ref f) = true) : At K mg "check_pairs" s_check_pairs ["pairs", "fitting"] :=
  at_mk X G a l c k (fun _ _ _ _ _ _ us hl => match us, hl with | [_, _], _ => rfl) (fun _ _ _ _ _ _ e => absurd e (by decide)) (fun _ _ _ _ _ _ p q e w1 w2 => by cases e; rfl)
theorem at_checked_names {K : PySem.W.Frag} {h : Heap} {mg : Str → Option Value} {f : Addr} {od an : Option Addr} {sl : Array (Option Value)} {oc kV dc pm cd ct : Value} (X : K.In h) (G : h.Ns mainGlobals mg) (a : PySem.W.nsIn K mainGlobals "checked_names" = some (some (.ref f))) (l : K.lookup f = some ⟨oc, od, .func (PySem.W.fnOf "checked_names" "checked_names" (defArgs s_checked_names) (defBody s_checked_names) (defScope s_checked_names) .none kV dc pm an cd ct), sl⟩) (c : PySem.W.codeIn K cd "checked_names" = true) (k : PySem.W.keepIn K (.ref f) = true) : At K mg "checked_names" s_checked_names ["stock", "names"] :=
  at_mk X G a l c k (fun _ _ _ _ _ _ us hl => match us, hl with | [_, _], _ => rfl) (fun _ _ _ _ _ _ e => absurd e (by decide)) (fun _ _ _ _ _ _ p q e w1 w2 => by cases e; rfl)
theorem at_prices_by_name {K : PySem.W.Frag} {h : Heap} {mg : Str → Option Value} {f : Addr} {od an : Option Addr} {sl : Array (Option Value)} {oc kV dc pm cd ct : Value} (X : K.In h) (G : h.Ns mainGlobals mg) (a : PySem.W.nsIn K mainGlobals "prices_by_name" = some (some (.ref f))) (l : K.lookup f = some ⟨oc, od, .func (PySem.W.fnOf "prices_by_name" "prices_by_name" (defArgs s_prices_by_name) (defBody s_prices_by_name) (defScope s_prices_by_name) .none kV dc pm an cd ct), sl⟩) (c : PySem.W.codeIn K cd "prices_by_name" = true) (k : PySem.W.keepIn K (.ref f) = true) : At K mg "prices_by_name" s_prices_by_name ["stock", "prices"] :=
  at_mk X G a l c k (fun _ _ _ _ _ _ us hl => match us, hl with | [_, _], _ => rfl) (fun _ _ _ _ _ _ e => absurd e (by decide)) (fun _ _ _ _ _ _ p q e w1 w2 => by cases e; rfl)
theorem at_row_cost {K : PySem.W.Frag} {h : Heap} {mg : Str → Option Value} {f : Addr} {od an : Option Addr} {sl : Array (Option Value)} {oc kV dc pm cd ct : Value} (X : K.In h) (G : h.Ns mainGlobals mg) (a : PySem.W.nsIn K mainGlobals "row_cost" = some (some (.ref f))) (l : K.lookup f = some ⟨oc, od, .func (PySem.W.fnOf "row_cost" "row_cost" (defArgs s_row_cost) (defBody s_row_cost) (defScope s_row_cost) .none kV dc pm an cd ct), sl⟩) (c : PySem.W.codeIn K cd "row_cost" = true) (k : PySem.W.keepIn K (.ref f) = true) : At K mg "row_cost" s_row_cost ["stock", "prices", "row"] :=
  at_mk X G a l c k (fun _ _ _ _ _ _ us hl => match us, hl with | [_, _, _], _ => rfl) (fun _ _ _ _ _ _ e => absurd e (by decide)) (fun _ _ _ _ _ _ p q e => by cases e)
theorem at_price_order {K : PySem.W.Frag} {h : Heap} {mg : Str → Option Value} {f : Addr} {od an : Option Addr} {sl : Array (Option Value)} {oc kV dc pm cd ct : Value} (X : K.In h) (G : h.Ns mainGlobals mg) (a : PySem.W.nsIn K mainGlobals "price_order" = some (some (.ref f))) (l : K.lookup f = some ⟨oc, od, .func (PySem.W.fnOf "price_order" "price_order" (defArgs s_price_order) (defBody s_price_order) (defScope s_price_order) .none kV dc pm an cd ct), sl⟩) (c : PySem.W.codeIn K cd "price_order" = true) (k : PySem.W.keepIn K (.ref f) = true) : At K mg "price_order" s_price_order ["stock", "prices"] :=
  at_mk X G a l c k (fun _ _ _ _ _ _ us hl => match us, hl with | [_, _], _ => rfl) (fun _ _ _ _ _ _ e => absurd e (by decide)) (fun _ _ _ _ _ _ p q e w1 w2 => by cases e; rfl)
theorem at__law_whole {K : PySem.W.Frag} {h : Heap} {mg : Str → Option Value} {f : Addr} {od an : Option Addr} {sl : Array (Option Value)} {oc kV dc pm cd ct : Value} (X : K.In h) (G : h.Ns mainGlobals mg) (a : PySem.W.nsIn K mainGlobals "_law_whole" = some (some (.ref f))) (l : K.lookup f = some ⟨oc, od, .func (PySem.W.fnOf "_law_whole" "_law_whole" (defArgs s__law_whole) (defBody s__law_whole) (defScope s__law_whole) .none kV dc pm an cd ct), sl⟩) (c : PySem.W.codeIn K cd "_law_whole" = true) (k : PySem.W.keepIn K (.ref f) = true) : At K mg "_law_whole" s__law_whole ["value"] :=
  at_mk X G a l c k (fun _ _ _ _ _ _ us hl => match us, hl with | [_], _ => rfl) (fun _ _ _ _ _ _ _ _ => rfl) (fun _ _ _ _ _ _ p q e => by cases e)
theorem at__law_cell {K : PySem.W.Frag} {h : Heap} {mg : Str → Option Value} {f : Addr} {od an : Option Addr} {sl : Array (Option Value)} {oc kV dc pm cd ct : Value} (X : K.In h) (G : h.Ns mainGlobals mg) (a : PySem.W.nsIn K mainGlobals "_law_cell" = some (some (.ref f))) (l : K.lookup f = some ⟨oc, od, .func (PySem.W.fnOf "_law_cell" "_law_cell" (defArgs s__law_cell) (defBody s__law_cell) (defScope s__law_cell) .none kV dc pm an cd ct), sl⟩) (c : PySem.W.codeIn K cd "_law_cell" = true) (k : PySem.W.keepIn K (.ref f) = true) : At K mg "_law_cell" s__law_cell ["script", "k"] :=
  at_mk X G a l c k (fun _ _ _ _ _ _ us hl => match us, hl with | [_, _], _ => rfl) (fun _ _ _ _ _ _ e => absurd e (by decide)) (fun _ _ _ _ _ _ p q e w1 w2 => by cases e; rfl)
theorem at__law_digits {K : PySem.W.Frag} {h : Heap} {mg : Str → Option Value} {f : Addr} {od an : Option Addr} {sl : Array (Option Value)} {oc kV dc pm cd ct : Value} (X : K.In h) (G : h.Ns mainGlobals mg) (a : PySem.W.nsIn K mainGlobals "_law_digits" = some (some (.ref f))) (l : K.lookup f = some ⟨oc, od, .func (PySem.W.fnOf "_law_digits" "_law_digits" (defArgs s__law_digits) (defBody s__law_digits) (defScope s__law_digits) .none kV dc pm an cd ct), sl⟩) (c : PySem.W.codeIn K cd "_law_digits" = true) (k : PySem.W.keepIn K (.ref f) = true) : At K mg "_law_digits" s__law_digits ["value", "sizes"] :=
  at_mk X G a l c k (fun _ _ _ _ _ _ us hl => match us, hl with | [_, _], _ => rfl) (fun _ _ _ _ _ _ e => absurd e (by decide)) (fun _ _ _ _ _ _ p q e w1 w2 => by cases e; rfl)
theorem at__law_names {K : PySem.W.Frag} {h : Heap} {mg : Str → Option Value} {f : Addr} {od an : Option Addr} {sl : Array (Option Value)} {oc kV dc pm cd ct : Value} (X : K.In h) (G : h.Ns mainGlobals mg) (a : PySem.W.nsIn K mainGlobals "_law_names" = some (some (.ref f))) (l : K.lookup f = some ⟨oc, od, .func (PySem.W.fnOf "_law_names" "_law_names" (defArgs s__law_names) (defBody s__law_names) (defScope s__law_names) .none kV dc pm an cd ct), sl⟩) (c : PySem.W.codeIn K cd "_law_names" = true) (k : PySem.W.keepIn K (.ref f) = true) : At K mg "_law_names" s__law_names ["digit", "many", "near"] :=
  at_mk X G a l c k (fun _ _ _ _ _ _ us hl => match us, hl with | [_, _, _], _ => rfl) (fun _ _ _ _ _ _ e => absurd e (by decide)) (fun _ _ _ _ _ _ p q e => by cases e)
theorem at__law_prices {K : PySem.W.Frag} {h : Heap} {mg : Str → Option Value} {f : Addr} {od an : Option Addr} {sl : Array (Option Value)} {oc kV dc pm cd ct : Value} (X : K.In h) (G : h.Ns mainGlobals mg) (a : PySem.W.nsIn K mainGlobals "_law_prices" = some (some (.ref f))) (l : K.lookup f = some ⟨oc, od, .func (PySem.W.fnOf "_law_prices" "_law_prices" (defArgs s__law_prices) (defBody s__law_prices) (defScope s__law_prices) .none kV dc pm an cd ct), sl⟩) (c : PySem.W.codeIn K cd "_law_prices" = true) (k : PySem.W.keepIn K (.ref f) = true) : At K mg "_law_prices" s__law_prices ["line", "many"] :=
  at_mk X G a l c k (fun _ _ _ _ _ _ us hl => match us, hl with | [_, _], _ => rfl) (fun _ _ _ _ _ _ e => absurd e (by decide)) (fun _ _ _ _ _ _ p q e w1 w2 => by cases e; rfl)
theorem at__law_place {K : PySem.W.Frag} {h : Heap} {mg : Str → Option Value} {f : Addr} {od an : Option Addr} {sl : Array (Option Value)} {oc kV dc pm cd ct : Value} (X : K.In h) (G : h.Ns mainGlobals mg) (a : PySem.W.nsIn K mainGlobals "_law_place" = some (some (.ref f))) (l : K.lookup f = some ⟨oc, od, .func (PySem.W.fnOf "_law_place" "_law_place" (defArgs s__law_place) (defBody s__law_place) (defScope s__law_place) .none kV dc pm an cd ct), sl⟩) (c : PySem.W.codeIn K cd "_law_place" = true) (k : PySem.W.keepIn K (.ref f) = true) : At K mg "_law_place" s__law_place ["names", "name"] :=
  at_mk X G a l c k (fun _ _ _ _ _ _ us hl => match us, hl with | [_, _], _ => rfl) (fun _ _ _ _ _ _ e => absurd e (by decide)) (fun _ _ _ _ _ _ p q e w1 w2 => by cases e; rfl)
theorem at__law_strange {K : PySem.W.Frag} {h : Heap} {mg : Str → Option Value} {f : Addr} {od an : Option Addr} {sl : Array (Option Value)} {oc kV dc pm cd ct : Value} (X : K.In h) (G : h.Ns mainGlobals mg) (a : PySem.W.nsIn K mainGlobals "_law_strange" = some (some (.ref f))) (l : K.lookup f = some ⟨oc, od, .func (PySem.W.fnOf "_law_strange" "_law_strange" (defArgs s__law_strange) (defBody s__law_strange) (defScope s__law_strange) .none kV dc pm an cd ct), sl⟩) (c : PySem.W.codeIn K cd "_law_strange" = true) (k : PySem.W.keepIn K (.ref f) = true) : At K mg "_law_strange" s__law_strange ["some", "further"] :=
  at_mk X G a l c k (fun _ _ _ _ _ _ us hl => match us, hl with | [_, _], _ => rfl) (fun _ _ _ _ _ _ e => absurd e (by decide)) (fun _ _ _ _ _ _ p q e w1 w2 => by cases e; rfl)
theorem at__law_sum {K : PySem.W.Frag} {h : Heap} {mg : Str → Option Value} {f : Addr} {od an : Option Addr} {sl : Array (Option Value)} {oc kV dc pm cd ct : Value} (X : K.In h) (G : h.Ns mainGlobals mg) (a : PySem.W.nsIn K mainGlobals "_law_sum" = some (some (.ref f))) (l : K.lookup f = some ⟨oc, od, .func (PySem.W.fnOf "_law_sum" "_law_sum" (defArgs s__law_sum) (defBody s__law_sum) (defScope s__law_sum) .none kV dc pm an cd ct), sl⟩) (c : PySem.W.codeIn K cd "_law_sum" = true) (k : PySem.W.keepIn K (.ref f) = true) : At K mg "_law_sum" s__law_sum ["names", "tags", "line"] :=
  at_mk X G a l c k (fun _ _ _ _ _ _ us hl => match us, hl with | [_, _, _], _ => rfl) (fun _ _ _ _ _ _ e => absurd e (by decide)) (fun _ _ _ _ _ _ p q e => by cases e)
theorem at__law_ascending {K : PySem.W.Frag} {h : Heap} {mg : Str → Option Value} {f : Addr} {od an : Option Addr} {sl : Array (Option Value)} {oc kV dc pm cd ct : Value} (X : K.In h) (G : h.Ns mainGlobals mg) (a : PySem.W.nsIn K mainGlobals "_law_ascending" = some (some (.ref f))) (l : K.lookup f = some ⟨oc, od, .func (PySem.W.fnOf "_law_ascending" "_law_ascending" (defArgs s__law_ascending) (defBody s__law_ascending) (defScope s__law_ascending) .none kV dc pm an cd ct), sl⟩) (c : PySem.W.codeIn K cd "_law_ascending" = true) (k : PySem.W.keepIn K (.ref f) = true) : At K mg "_law_ascending" s__law_ascending ["names", "tags", "told"] :=
  at_mk X G a l c k (fun _ _ _ _ _ _ us hl => match us, hl with | [_, _, _], _ => rfl) (fun _ _ _ _ _ _ e => absurd e (by decide)) (fun _ _ _ _ _ _ p q e => by cases e)
theorem at__law_cost_refused {K : PySem.W.Frag} {h : Heap} {mg : Str → Option Value} {f : Addr} {od an : Option Addr} {sl : Array (Option Value)} {oc kV dc pm cd ct : Value} (X : K.In h) (G : h.Ns mainGlobals mg) (a : PySem.W.nsIn K mainGlobals "_law_cost_refused" = some (some (.ref f))) (l : K.lookup f = some ⟨oc, od, .func (PySem.W.fnOf "_law_cost_refused" "_law_cost_refused" (defArgs s__law_cost_refused) (defBody s__law_cost_refused) (defScope s__law_cost_refused) .none kV dc pm an cd ct), sl⟩) (c : PySem.W.codeIn K cd "_law_cost_refused" = true) (k : PySem.W.keepIn K (.ref f) = true) : At K mg "_law_cost_refused" s__law_cost_refused ["shop", "wrong", "line"] :=
  at_mk X G a l c k (fun _ _ _ _ _ _ us hl => match us, hl with | [_, _, _], _ => rfl) (fun _ _ _ _ _ _ e => absurd e (by decide)) (fun _ _ _ _ _ _ p q e => by cases e)
theorem at__law_order_refused {K : PySem.W.Frag} {h : Heap} {mg : Str → Option Value} {f : Addr} {od an : Option Addr} {sl : Array (Option Value)} {oc kV dc pm cd ct : Value} (X : K.In h) (G : h.Ns mainGlobals mg) (a : PySem.W.nsIn K mainGlobals "_law_order_refused" = some (some (.ref f))) (l : K.lookup f = some ⟨oc, od, .func (PySem.W.fnOf "_law_order_refused" "_law_order_refused" (defArgs s__law_order_refused) (defBody s__law_order_refused) (defScope s__law_order_refused) .none kV dc pm an cd ct), sl⟩) (c : PySem.W.codeIn K cd "_law_order_refused" = true) (k : PySem.W.keepIn K (.ref f) = true) : At K mg "_law_order_refused" s__law_order_refused ["shop", "wrong"] :=
  at_mk X G a l c k (fun _ _ _ _ _ _ us hl => match us, hl with | [_, _], _ => rfl) (fun _ _ _ _ _ _ e => absurd e (by decide)) (fun _ _ _ _ _ _ p q e w1 w2 => by cases e; rfl)
theorem at__law_unknown {K : PySem.W.Frag} {h : Heap} {mg : Str → Option Value} {f : Addr} {od an : Option Addr} {sl : Array (Option Value)} {oc kV dc pm cd ct : Value} (X : K.In h) (G : h.Ns mainGlobals mg) (a : PySem.W.nsIn K mainGlobals "_law_unknown" = some (some (.ref f))) (l : K.lookup f = some ⟨oc, od, .func (PySem.W.fnOf "_law_unknown" "_law_unknown" (defArgs s__law_unknown) (defBody s__law_unknown) (defScope s__law_unknown) .none kV dc pm an cd ct), sl⟩) (c : PySem.W.codeIn K cd "_law_unknown" = true) (k : PySem.W.keepIn K (.ref f) = true) : At K mg "_law_unknown" s__law_unknown ["shop", "tags", "line", "due"] :=
  at_mk X G a l c k (fun _ _ _ _ _ _ us hl => match us, hl with | [_, _, _, _], _ => rfl) (fun _ _ _ _ _ _ e => absurd e (by decide)) (fun _ _ _ _ _ _ p q e => by cases e)
theorem at__law_dots {K : PySem.W.Frag} {h : Heap} {mg : Str → Option Value} {f : Addr} {od an : Option Addr} {sl : Array (Option Value)} {oc kV dc pm cd ct : Value} (X : K.In h) (G : h.Ns mainGlobals mg) (a : PySem.W.nsIn K mainGlobals "_law_dots" = some (some (.ref f))) (l : K.lookup f = some ⟨oc, od, .func (PySem.W.fnOf "_law_dots" "_law_dots" (defArgs s__law_dots) (defBody s__law_dots) (defScope s__law_dots) .none kV dc pm an cd ct), sl⟩) (c : PySem.W.codeIn K cd "_law_dots" = true) (k : PySem.W.keepIn K (.ref f) = true) : At K mg "_law_dots" s__law_dots ["value", "names", "size"] :=
  at_mk X G a l c k (fun _ _ _ _ _ _ us hl => match us, hl with | [_, _, _], _ => rfl) (fun _ _ _ _ _ _ e => absurd e (by decide)) (fun _ _ _ _ _ _ p q e => by cases e)
theorem at__law_miscount {K : PySem.W.Frag} {h : Heap} {mg : Str → Option Value} {f : Addr} {od an : Option Addr} {sl : Array (Option Value)} {oc kV dc pm cd ct : Value} (X : K.In h) (G : h.Ns mainGlobals mg) (a : PySem.W.nsIn K mainGlobals "_law_miscount" = some (some (.ref f))) (l : K.lookup f = some ⟨oc, od, .func (PySem.W.fnOf "_law_miscount" "_law_miscount" (defArgs s__law_miscount) (defBody s__law_miscount) (defScope s__law_miscount) .none kV dc pm an cd ct), sl⟩) (c : PySem.W.codeIn K cd "_law_miscount" = true) (k : PySem.W.keepIn K (.ref f) = true) : At K mg "_law_miscount" s__law_miscount ["many", "pick"] :=
  at_mk X G a l c k (fun _ _ _ _ _ _ us hl => match us, hl with | [_, _], _ => rfl) (fun _ _ _ _ _ _ e => absurd e (by decide)) (fun _ _ _ _ _ _ p q e w1 w2 => by cases e; rfl)
theorem at_law {K : PySem.W.Frag} {h : Heap} {mg : Str → Option Value} {f : Addr} {od an : Option Addr} {sl : Array (Option Value)} {oc kV dc pm cd ct : Value} (X : K.In h) (G : h.Ns mainGlobals mg) (a : PySem.W.nsIn K mainGlobals "law" = some (some (.ref f))) (l : K.lookup f = some ⟨oc, od, .func (PySem.W.fnOf "law" "law" (defArgs s_law) (defBody s_law) (defScope s_law) .none kV dc pm an cd ct), sl⟩) (c : PySem.W.codeIn K cd "law" = true) (k : PySem.W.keepIn K (.ref f) = true) : At K mg "law" s_law ["script"] :=
  at_mk X G a l c k (fun _ _ _ _ _ _ us hl => match us, hl with | [_], _ => rfl) (fun _ _ _ _ _ _ _ _ => rfl) (fun _ _ _ _ _ _ p q e => by cases e)
end Mi

set_option maxHeartbeats 4000000
namespace Mi
open PySem PySem.Spec PyProof.Rows L2 Evl
theorem fn_all {P : Program} {w : World} {K : PySem.W.Frag} {mg : Str → Option Value} {base : Heap} {f0 C fI fC fL fP : Addr} {fd0 fdI fdN fdL fdP : FuncData} {CU fU CS CT CW CB CC c Pt : Addr} {fdO : FuncData}  (T : Txt K mg)
    (TS : StTxt K mg C)
    (TU : UnTxt K mg CU fU CS CT CW) (FO : Fun K "__init__" "UnknownName.__init__" s_UnknownName___init__ fU fdO) (bO : Binds K fdO ["self", "name"] []) (TB : BpTxt K mg CB CS CU CC) (TBc : LamX.TabB base mg c Pt) (hc : CodeAt K mg "price_order" c)
    (F : Fun K "law" "law" s_law f0 fd0)
    (FI : Fun K "__init__" "Stock.__init__" s_Stock___init__ fI fdI) (bI : Binds K fdI ["self", "size", "stamps"] [])
    (M_init : Mk K C fI)
    (FN : Fun K "__contains__" "Stock.__contains__" s_Stock___contains__ fC fdN) (bN : Binds K fdN ["self", "name"] [])
    (hiN : PySem.W.findIn K (.ref C) "__contains__" = some (some (.ref fC))) (hfN : PySem.W.isFn K (.ref fC) = true)
    (FL : Fun K "__len__" "Stock.__len__" s_Stock___len__ fL fdL) (bL : Binds K fdL ["self"] [])
    (hiL : PySem.W.findIn K (.ref C) "__len__" = some (some (.ref fL))) (hfL : PySem.W.isFn K (.ref fL) = true)
    (FP : Fun K "names" "Stock.names" s_Stock_names fP fdP) (bP : Binds K fdP ["self"] [])
    {pP : Addr} (P_names : PropOf K C "names" pP fP)
    (a_as_tuples : At K mg "as_tuples" s_as_tuples ["value"])
    (a_is_layer : At K mg "is_layer" s_is_layer ["value"])
    (a_cells_of : At K mg "cells_of" s_cells_of ["one"])
    (a_is_name : At K mg "is_name" s_is_name ["value"])
    (a_is_stamp : At K mg "is_stamp" s_is_stamp ["value", "size"])
    (a_check_pairs : At K mg "check_pairs" s_check_pairs ["pairs", "fitting"])
    (a_checked_names : At K mg "checked_names" s_checked_names ["stock", "names"])
    (a_prices_by_name : At K mg "prices_by_name" s_prices_by_name ["stock", "prices"])
    (a_row_cost : At K mg "row_cost" s_row_cost ["stock", "prices", "row"])
    (a_price_order : At K mg "price_order" s_price_order ["stock", "prices"])
    (a__law_whole : At K mg "_law_whole" s__law_whole ["value"])
    (a__law_cell : At K mg "_law_cell" s__law_cell ["script", "k"])
    (a__law_digits : At K mg "_law_digits" s__law_digits ["value", "sizes"])
    (a__law_names : At K mg "_law_names" s__law_names ["digit", "many", "near"])
    (a__law_prices : At K mg "_law_prices" s__law_prices ["line", "many"])
    (a__law_place : At K mg "_law_place" s__law_place ["names", "name"])
    (a__law_strange : At K mg "_law_strange" s__law_strange ["some", "further"])
    (a__law_sum : At K mg "_law_sum" s__law_sum ["names", "tags", "line"])
    (a__law_ascending : At K mg "_law_ascending" s__law_ascending ["names", "tags", "told"])
    (a__law_cost_refused : At K mg "_law_cost_refused" s__law_cost_refused ["shop", "wrong", "line"])
    (a__law_order_refused : At K mg "_law_order_refused" s__law_order_refused ["shop", "wrong"])
    (a__law_unknown : At K mg "_law_unknown" s__law_unknown ["shop", "tags", "line", "due"])
    (a__law_dots : At K mg "_law_dots" s__law_dots ["value", "names", "size"])
    (a__law_miscount : At K mg "_law_miscount" s__law_miscount ["many", "pick"])
    : FnOk P w K mg base CX0 6 f0 fd0 ["script"] (spLawT K Pt) := by
  have C_as_tuples := has_as_tuples (P := P) (w := w) (base := base) T a_as_tuples 3
  have C_is_layer := has_is_layer (P := P) (w := w) (base := base) T a_is_layer
  have C_cells_of := has_cells_of (P := P) (w := w) (base := base) T a_cells_of
  have C_is_name := has_is_name (P := P) (w := w) (base := base) T a_is_name
  have C_is_stamp := has_is_stamp (P := P) (w := w) (base := base) T a_is_stamp C_is_layer C_cells_of
  have C_check_pairs := has_check_pairs (P := P) (w := w) (base := base) T a_check_pairs C_is_name
  have C__law_whole := has__law_whole (P := P) (w := w) (base := base) T a__law_whole
  have C__law_cell := has__law_cell (P := P) (w := w) (base := base) T a__law_cell
  have C__law_digits := has__law_digits (P := P) (w := w) (base := base) T a__law_digits
  have C__law_names := has__law_names (P := P) (w := w) (base := base) T a__law_names
  have C__law_prices := has__law_prices (P := P) (w := w) (base := base) T a__law_prices
  have C__law_place := has__law_place (P := P) (w := w) (base := base) T a__law_place
  have C__law_strange := has__law_strange (P := P) (w := w) (base := base) T a__law_strange
  have C__law_sum := has__law_sum (P := P) (w := w) (base := base) T a__law_sum C__law_place
  have C__law_ascending := has__law_ascending (P := P) (w := w) (base := base) T a__law_ascending C__law_place
  have C__law_dots := has__law_dots (P := P) (w := w) (base := base) T a__law_dots C__law_digits
  have C__law_miscount := has__law_miscount (P := P) (w := w) (base := base) T a__law_miscount
  have F_init := ok_init (P := P) (w := w) (base := base) FI T TS C_as_tuples C_is_stamp C_check_pairs
  have F_contains := ok_contains (P := P) (w := w) (base := base) FN T TS
  have F_len := ok_len (P := P) (w := w) (base := base) FL T TS
  have F_names := ok_names (P := P) (w := w) (base := base) FP T TS
  have F_namesF := ok_namesF (P := P) (w := w) (base := base) FP T TS
  have F_un := ok_un (P := P) (w := w) (base := base) FO TU
  have C_checked_names := has_checked_names (P := P) (w := w) (base := base) T TS a_checked_names hiN hfN F_contains bN
  have C_prices_by_name := has_prices_by_name (P := P) (w := w) (base := base) T TS TB a_prices_by_name hiL hfL F_len bL P_names F_namesF bP
  have C_row_cost := has_row_cost (P := P) (w := w) (base := base) T a_row_cost C_prices_by_name C_checked_names
  have C_price_order := has_price_order (P := P) (w := w) (base := base) T TS TB TBc hc a_price_order C_prices_by_name P_names F_namesF bP
  have D_row_cost := hasD_row_cost (P := P) (w := w) (base := base) T a_row_cost C_prices_by_name C_checked_names
  have D_price_order := hasD_price_order (P := P) (w := w) (base := base) T TS TB TBc hc a_price_order C_prices_by_name P_names F_namesF bP
  have X_checked_names := a_checked_names.hasX fun {f fd} F_ => fn_checked_names (P := P) (w := w) (base := base) T TS TU F_ hiN hfN F_contains bN F_un bO
  have X_prices_by_name := a_prices_by_name.hasX fun {f fd} F_ => fn_prices_by_name (P := P) (w := w) (base := base) T TS TB F_ hiL hfL F_len bL P_names F_names bP
  have X_row_cost := a_row_cost.hasX fun {f fd} F_ => fn_row_cost (P := P) (w := w) (base := base) T F_ X_prices_by_name X_checked_names
  have C__law_cost_refused := has__law_cost_refused (P := P) (w := w) (base := base) T TB a__law_cost_refused X_row_cost
  have C__law_unknown := has__law_unknown (P := P) (w := w) (base := base) T TB TU a__law_unknown X_row_cost
  have X_price_order := hasX_price_order (P := P) (w := w) (base := base) T TS TB TBc hc a_price_order X_prices_by_name P_names F_namesF bP
  have C__law_order_refused := has__law_order_refused (P := P) (w := w) (base := base) T TB a__law_order_refused X_price_order
  exact fn_law T TS F M_init F_init bI C__law_digits C__law_cell C__law_names C__law_dots C__law_prices C_row_cost D_row_cost C__law_whole C__law_sum C_price_order D_price_order C__law_ascending C__law_strange C__law_unknown C__law_miscount C__law_cost_refused C__law_order_refused
theorem no_str {K : PySem.W.Frag} {C : Addr} (h : PySem.W.mroIn K C (.type "str") = some false) : PySem.W.kitOne K (.ref C) (.type "str") = some false := by
  unfold PySem.W.kitOne
  have e : (Value.ref C == Value.type "str") = false := rfl
  rw [e, if_neg Bool.false_ne_true]
  show (if PySem.W.kitMeta "str" = true then PySem.W.subIn K (.ref C) (.type "str") else none) = _
  rw [if_pos (by decide)]
  unfold PySem.W.subIn
  exact h

theorem all_mk {l : PySem.W.OpenLaw} {w : World} {K : PySem.W.Frag} {h : Heap} {mg : Str → Option Value} {fa C fI fC fL fP : Addr} {tD tL tM tG : Tok} {nL nN : Tok} {xD xL xM xG : Str} (X : K.In h) (G : h.Ns mainGlobals mg) (hfa : mg "law" = some (.ref fa))
    {CU fU CS CT CW CB CC cSub Pt : Addr} {xnm xq : Str} {xN : Addr} {xbs : List Value} {xsn : List Str} {xsub : List Value} {xab : Bool} {xcol : Option Bool} {xdd : Option Addr} {x0 x1 x2 x3 x5 : Option Value} {odO anO : Option Addr} {slO : Array (Option Value)} {ocO kVO dcO pmO cdO ctO : Value}
    {f0 : Addr} {od0 an0 : Option Addr} {sl0 : Array (Option Value)} {oc0 kV0 dc0 pm0 cd0 ct0 : Value}
    {f1 : Addr} {od1 an1 : Option Addr} {sl1 : Array (Option Value)} {oc1 kV1 dc1 pm1 cd1 ct1 : Value}
    {f2 : Addr} {od2 an2 : Option Addr} {sl2 : Array (Option Value)} {oc2 kV2 dc2 pm2 cd2 ct2 : Value}
    {f3 : Addr} {od3 an3 : Option Addr} {sl3 : Array (Option Value)} {oc3 kV3 dc3 pm3 cd3 ct3 : Value}
    {f4 : Addr} {od4 an4 : Option Addr} {sl4 : Array (Option Value)} {oc4 kV4 dc4 pm4 cd4 ct4 : Value}
    {f5 : Addr} {od5 an5 : Option Addr} {sl5 : Array (Option Value)} {oc5 kV5 dc5 pm5 cd5 ct5 : Value}
    {f6 : Addr} {od6 an6 : Option Addr} {sl6 : Array (Option Value)} {oc6 kV6 dc6 pm6 cd6 ct6 : Value}
    {f7 : Addr} {od7 an7 : Option Addr} {sl7 : Array (Option Value)} {oc7 kV7 dc7 pm7 cd7 ct7 : Value}
    {f8 : Addr} {od8 an8 : Option Addr} {sl8 : Array (Option Value)} {oc8 kV8 dc8 pm8 cd8 ct8 : Value}
    {f9 : Addr} {od9 an9 : Option Addr} {sl9 : Array (Option Value)} {oc9 kV9 dc9 pm9 cd9 ct9 : Value}
    {f10 : Addr} {od10 an10 : Option Addr} {sl10 : Array (Option Value)} {oc10 kV10 dc10 pm10 cd10 ct10 : Value}
    {f11 : Addr} {od11 an11 : Option Addr} {sl11 : Array (Option Value)} {oc11 kV11 dc11 pm11 cd11 ct11 : Value}
    {f12 : Addr} {od12 an12 : Option Addr} {sl12 : Array (Option Value)} {oc12 kV12 dc12 pm12 cd12 ct12 : Value}
    {f13 : Addr} {od13 an13 : Option Addr} {sl13 : Array (Option Value)} {oc13 kV13 dc13 pm13 cd13 ct13 : Value}
    {f14 : Addr} {od14 an14 : Option Addr} {sl14 : Array (Option Value)} {oc14 kV14 dc14 pm14 cd14 ct14 : Value}
    {f15 : Addr} {od15 an15 : Option Addr} {sl15 : Array (Option Value)} {oc15 kV15 dc15 pm15 cd15 ct15 : Value}
    {f16 : Addr} {od16 an16 : Option Addr} {sl16 : Array (Option Value)} {oc16 kV16 dc16 pm16 cd16 ct16 : Value}
    {f17 : Addr} {od17 an17 : Option Addr} {sl17 : Array (Option Value)} {oc17 kV17 dc17 pm17 cd17 ct17 : Value}
    {f18 : Addr} {od18 an18 : Option Addr} {sl18 : Array (Option Value)} {oc18 kV18 dc18 pm18 cd18 ct18 : Value}
    {f19 : Addr} {od19 an19 : Option Addr} {sl19 : Array (Option Value)} {oc19 kV19 dc19 pm19 cd19 ct19 : Value}
    {f20 : Addr} {od20 an20 : Option Addr} {sl20 : Array (Option Value)} {oc20 kV20 dc20 pm20 cd20 ct20 : Value}
    {f21 : Addr} {od21 an21 : Option Addr} {sl21 : Array (Option Value)} {oc21 kV21 dc21 pm21 cd21 ct21 : Value}
    {f22 : Addr} {od22 an22 : Option Addr} {sl22 : Array (Option Value)} {oc22 kV22 dc22 pm22 cd22 ct22 : Value}
    {f23 : Addr} {od23 an23 : Option Addr} {sl23 : Array (Option Value)} {oc23 kV23 dc23 pm23 cd23 ct23 : Value}
    {f24 : Addr} {od24 an24 : Option Addr} {sl24 : Array (Option Value)} {oc24 kV24 dc24 pm24 cd24 ct24 : Value}
    {odI anI : Option Addr} {slI : Array (Option Value)} {ocI kVI dcI pmI cdI ctI : Value}
    {odN anN : Option Addr} {slN : Array (Option Value)} {ocN kVN dcN pmN cdN ctN : Value}
    {odL anL : Option Addr} {slL : Array (Option Value)} {ocL kVL dcL pmL cdL ctL : Value}
    {odP anP : Option Addr} {slP : Array (Option Value)} {ocP kVP dcP pmP cdP ctP : Value}
    (a0 : PySem.W.nsIn K mainGlobals "as_tuples" = some (some (.ref f0))) (l0 : K.lookup f0 = some ⟨oc0, od0, .func (PySem.W.fnOf "as_tuples" "as_tuples" (defArgs s_as_tuples) (defBody s_as_tuples) (defScope s_as_tuples) .none kV0 dc0 pm0 an0 cd0 ct0), sl0⟩) (c0 : PySem.W.codeIn K cd0 "as_tuples" = true) (k0 : PySem.W.keepIn K (.ref f0) = true)
    (a1 : PySem.W.nsIn K mainGlobals "is_layer" = some (some (.ref f1))) (l1 : K.lookup f1 = some ⟨oc1, od1, .func (PySem.W.fnOf "is_layer" "is_layer" (defArgs s_is_layer) (defBody s_is_layer) (defScope s_is_layer) .none kV1 dc1 pm1 an1 cd1 ct1), sl1⟩) (c1 : PySem.W.codeIn K cd1 "is_layer" = true) (k1 : PySem.W.keepIn K (.ref f1) = true)
    (a2 : PySem.W.nsIn K mainGlobals "cells_of" = some (some (.ref f2))) (l2 : K.lookup f2 = some ⟨oc2, od2, .func (PySem.W.fnOf "cells_of" "cells_of" (defArgs s_cells_of) (defBody s_cells_of) (defScope s_cells_of) .none kV2 dc2 pm2 an2 cd2 ct2), sl2⟩) (c2 : PySem.W.codeIn K cd2 "cells_of" = true) (k2 : PySem.W.keepIn K (.ref f2) = true)
    (a3 : PySem.W.nsIn K mainGlobals "is_name" = some (some (.ref f3))) (l3 : K.lookup f3 = some ⟨oc3, od3, .func (PySem.W.fnOf "is_name" "is_name" (defArgs s_is_name) (defBody s_is_name) (defScope s_is_name) .none kV3 dc3 pm3 an3 cd3 ct3), sl3⟩) (c3 : PySem.W.codeIn K cd3 "is_name" = true) (k3 : PySem.W.keepIn K (.ref f3) = true)
    (a4 : PySem.W.nsIn K mainGlobals "is_stamp" = some (some (.ref f4))) (l4 : K.lookup f4 = some ⟨oc4, od4, .func (PySem.W.fnOf "is_stamp" "is_stamp" (defArgs s_is_stamp) (defBody s_is_stamp) (defScope s_is_stamp) .none kV4 dc4 pm4 an4 cd4 ct4), sl4⟩) (c4 : PySem.W.codeIn K cd4 "is_stamp" = true) (k4 : PySem.W.keepIn K (.ref f4) = true)
    (a5 : PySem.W.nsIn K mainGlobals "check_pairs" = some (some (.ref f5))) (l5 : K.lookup f5 = some ⟨oc5, od5, .func (PySem.W.fnOf "check_pairs" "check_pairs" (defArgs s_check_pairs) (defBody s_check_pairs) (defScope s_check_pairs) .none kV5 dc5 pm5 an5 cd5 ct5), sl5⟩) (c5 : PySem.W.codeIn K cd5 "check_pairs" = true) (k5 : PySem.W.keepIn K (.ref f5) = true)
    (a6 : PySem.W.nsIn K mainGlobals "checked_names" = some (some (.ref f6))) (l6 : K.lookup f6 = some ⟨oc6, od6, .func (PySem.W.fnOf "checked_names" "checked_names" (defArgs s_checked_names) (defBody s_checked_names) (defScope s_checked_names) .none kV6 dc6 pm6 an6 cd6 ct6), sl6⟩) (c6 : PySem.W.codeIn K cd6 "checked_names" = true) (k6 : PySem.W.keepIn K (.ref f6) = true)
    (a7 : PySem.W.nsIn K mainGlobals "prices_by_name" = some (some (.ref f7))) (l7 : K.lookup f7 = some ⟨oc7, od7, .func (PySem.W.fnOf "prices_by_name" "prices_by_name" (defArgs s_prices_by_name) (defBody s_prices_by_name) (defScope s_prices_by_name) .none kV7 dc7 pm7 an7 cd7 ct7), sl7⟩) (c7 : PySem.W.codeIn K cd7 "prices_by_name" = true) (k7 : PySem.W.keepIn K (.ref f7) = true)
    (a8 : PySem.W.nsIn K mainGlobals "row_cost" = some (some (.ref f8))) (l8 : K.lookup f8 = some ⟨oc8, od8, .func (PySem.W.fnOf "row_cost" "row_cost" (defArgs s_row_cost) (defBody s_row_cost) (defScope s_row_cost) .none kV8 dc8 pm8 an8 cd8 ct8), sl8⟩) (c8 : PySem.W.codeIn K cd8 "row_cost" = true) (k8 : PySem.W.keepIn K (.ref f8) = true)
    (a9 : PySem.W.nsIn K mainGlobals "price_order" = some (some (.ref f9))) (l9 : K.lookup f9 = some ⟨oc9, od9, .func (PySem.W.fnOf "price_order" "price_order" (defArgs s_price_order) (defBody s_price_order) (defScope s_price_order) .none kV9 dc9 pm9 an9 cd9 ct9), sl9⟩) (c9 : PySem.W.codeIn K cd9 "price_order" = true) (k9 : PySem.W.keepIn K (.ref f9) = true)
    (a10 : PySem.W.nsIn K mainGlobals "_law_whole" = some (some (.ref f10))) (l10 : K.lookup f10 = some ⟨oc10, od10, .func (PySem.W.fnOf "_law_whole" "_law_whole" (defArgs s__law_whole) (defBody s__law_whole) (defScope s__law_whole) .none kV10 dc10 pm10 an10 cd10 ct10), sl10⟩) (c10 : PySem.W.codeIn K cd10 "_law_whole" = true) (k10 : PySem.W.keepIn K (.ref f10) = true)
    (a11 : PySem.W.nsIn K mainGlobals "_law_cell" = some (some (.ref f11))) (l11 : K.lookup f11 = some ⟨oc11, od11, .func (PySem.W.fnOf "_law_cell" "_law_cell" (defArgs s__law_cell) (defBody s__law_cell) (defScope s__law_cell) .none kV11 dc11 pm11 an11 cd11 ct11), sl11⟩) (c11 : PySem.W.codeIn K cd11 "_law_cell" = true) (k11 : PySem.W.keepIn K (.ref f11) = true)
    (a12 : PySem.W.nsIn K mainGlobals "_law_digits" = some (some (.ref f12))) (l12 : K.lookup f12 = some ⟨oc12, od12, .func (PySem.W.fnOf "_law_digits" "_law_digits" (defArgs s__law_digits) (defBody s__law_digits) (defScope s__law_digits) .none kV12 dc12 pm12 an12 cd12 ct12), sl12⟩) (c12 : PySem.W.codeIn K cd12 "_law_digits" = true) (k12 : PySem.W.keepIn K (.ref f12) = true)
    (a13 : PySem.W.nsIn K mainGlobals "_law_names" = some (some (.ref f13))) (l13 : K.lookup f13 = some ⟨oc13, od13, .func (PySem.W.fnOf "_law_names" "_law_names" (defArgs s__law_names) (defBody s__law_names) (defScope s__law_names) .none kV13 dc13 pm13 an13 cd13 ct13), sl13⟩) (c13 : PySem.W.codeIn K cd13 "_law_names" = true) (k13 : PySem.W.keepIn K (.ref f13) = true)
    (a14 : PySem.W.nsIn K mainGlobals "_law_prices" = some (some (.ref f14))) (l14 : K.lookup f14 = some ⟨oc14, od14, .func (PySem.W.fnOf "_law_prices" "_law_prices" (defArgs s__law_prices) (defBody s__law_prices) (defScope s__law_prices) .none kV14 dc14 pm14 an14 cd14 ct14), sl14⟩) (c14 : PySem.W.codeIn K cd14 "_law_prices" = true) (k14 : PySem.W.keepIn K (.ref f14) = true)
    (a15 : PySem.W.nsIn K mainGlobals "_law_place" = some (some (.ref f15))) (l15 : K.lookup f15 = some ⟨oc15, od15, .func (PySem.W.fnOf "_law_place" "_law_place" (defArgs s__law_place) (defBody s__law_place) (defScope s__law_place) .none kV15 dc15 pm15 an15 cd15 ct15), sl15⟩) (c15 : PySem.W.codeIn K cd15 "_law_place" = true) (k15 : PySem.W.keepIn K (.ref f15) = true)
    (a16 : PySem.W.nsIn K mainGlobals "_law_strange" = some (some (.ref f16))) (l16 : K.lookup f16 = some ⟨oc16, od16, .func (PySem.W.fnOf "_law_strange" "_law_strange" (defArgs s__law_strange) (defBody s__law_strange) (defScope s__law_strange) .none kV16 dc16 pm16 an16 cd16 ct16), sl16⟩) (c16 : PySem.W.codeIn K cd16 "_law_strange" = true) (k16 : PySem.W.keepIn K (.ref f16) = true)
    (a17 : PySem.W.nsIn K mainGlobals "_law_sum" = some (some (.ref f17))) (l17 : K.lookup f17 = some ⟨oc17, od17, .func (PySem.W.fnOf "_law_sum" "_law_sum" (defArgs s__law_sum) (defBody s__law_sum) (defScope s__law_sum) .none kV17 dc17 pm17 an17 cd17 ct17), sl17⟩) (c17 : PySem.W.codeIn K cd17 "_law_sum" = true) (k17 : PySem.W.keepIn K (.ref f17) = true)
    (a18 : PySem.W.nsIn K mainGlobals "_law_ascending" = some (some (.ref f18))) (l18 : K.lookup f18 = some ⟨oc18, od18, .func (PySem.W.fnOf "_law_ascending" "_law_ascending" (defArgs s__law_ascending) (defBody s__law_ascending) (defScope s__law_ascending) .none kV18 dc18 pm18 an18 cd18 ct18), sl18⟩) (c18 : PySem.W.codeIn K cd18 "_law_ascending" = true) (k18 : PySem.W.keepIn K (.ref f18) = true)
    (a19 : PySem.W.nsIn K mainGlobals "_law_cost_refused" = some (some (.ref f19))) (l19 : K.lookup f19 = some ⟨oc19, od19, .func (PySem.W.fnOf "_law_cost_refused" "_law_cost_refused" (defArgs s__law_cost_refused) (defBody s__law_cost_refused) (defScope s__law_cost_refused) .none kV19 dc19 pm19 an19 cd19 ct19), sl19⟩) (c19 : PySem.W.codeIn K cd19 "_law_cost_refused" = true) (k19 : PySem.W.keepIn K (.ref f19) = true)
    (a20 : PySem.W.nsIn K mainGlobals "_law_order_refused" = some (some (.ref f20))) (l20 : K.lookup f20 = some ⟨oc20, od20, .func (PySem.W.fnOf "_law_order_refused" "_law_order_refused" (defArgs s__law_order_refused) (defBody s__law_order_refused) (defScope s__law_order_refused) .none kV20 dc20 pm20 an20 cd20 ct20), sl20⟩) (c20 : PySem.W.codeIn K cd20 "_law_order_refused" = true) (k20 : PySem.W.keepIn K (.ref f20) = true)
    (a21 : PySem.W.nsIn K mainGlobals "_law_unknown" = some (some (.ref f21))) (l21 : K.lookup f21 = some ⟨oc21, od21, .func (PySem.W.fnOf "_law_unknown" "_law_unknown" (defArgs s__law_unknown) (defBody s__law_unknown) (defScope s__law_unknown) .none kV21 dc21 pm21 an21 cd21 ct21), sl21⟩) (c21 : PySem.W.codeIn K cd21 "_law_unknown" = true) (k21 : PySem.W.keepIn K (.ref f21) = true)
    (a22 : PySem.W.nsIn K mainGlobals "_law_dots" = some (some (.ref f22))) (l22 : K.lookup f22 = some ⟨oc22, od22, .func (PySem.W.fnOf "_law_dots" "_law_dots" (defArgs s__law_dots) (defBody s__law_dots) (defScope s__law_dots) .none kV22 dc22 pm22 an22 cd22 ct22), sl22⟩) (c22 : PySem.W.codeIn K cd22 "_law_dots" = true) (k22 : PySem.W.keepIn K (.ref f22) = true)
    (a23 : PySem.W.nsIn K mainGlobals "_law_miscount" = some (some (.ref f23))) (l23 : K.lookup f23 = some ⟨oc23, od23, .func (PySem.W.fnOf "_law_miscount" "_law_miscount" (defArgs s__law_miscount) (defBody s__law_miscount) (defScope s__law_miscount) .none kV23 dc23 pm23 an23 cd23 ct23), sl23⟩) (c23 : PySem.W.codeIn K cd23 "_law_miscount" = true) (k23 : PySem.W.keepIn K (.ref f23) = true)
    (a24 : PySem.W.nsIn K mainGlobals "law" = some (some (.ref f24))) (l24 : K.lookup f24 = some ⟨oc24, od24, .func (PySem.W.fnOf "law" "law" (defArgs s_law) (defBody s_law) (defScope s_law) .none kV24 dc24 pm24 an24 cd24 ct24), sl24⟩) (c24 : PySem.W.codeIn K cd24 "law" = true) (k24 : PySem.W.keepIn K (.ref f24) = true)
    (aI : PySem.W.findIn K (.ref C) "__init__" = some (some (.ref fI))) (iI : PySem.W.isFn K (.ref fI) = true) (lI : K.lookup fI = some ⟨ocI, odI, .func (PySem.W.fnOf "__init__" "Stock.__init__" (defArgs s_Stock___init__) (defBody s_Stock___init__) (defScope s_Stock___init__) .none kVI dcI pmI anI cdI ctI), slI⟩) (cI : PySem.W.codeIn K cdI "Stock.__init__" = true) (kI : PySem.W.keepIn K (.ref fI) = true)
    (aN : PySem.W.findIn K (.ref C) "__contains__" = some (some (.ref fC))) (iN : PySem.W.isFn K (.ref fC) = true) (lN : K.lookup fC = some ⟨ocN, odN, .func (PySem.W.fnOf "__contains__" "Stock.__contains__" (defArgs s_Stock___contains__) (defBody s_Stock___contains__) (defScope s_Stock___contains__) .none kVN dcN pmN anN cdN ctN), slN⟩) (cN : PySem.W.codeIn K cdN "Stock.__contains__" = true) (kN : PySem.W.keepIn K (.ref fC) = true)
    (aL : PySem.W.findIn K (.ref C) "__len__" = some (some (.ref fL))) (iL : PySem.W.isFn K (.ref fL) = true) (lL : K.lookup fL = some ⟨ocL, odL, .func (PySem.W.fnOf "__len__" "Stock.__len__" (defArgs s_Stock___len__) (defBody s_Stock___len__) (defScope s_Stock___len__) .none kVL dcL pmL anL cdL ctL), slL⟩) (cL : PySem.W.codeIn K cdL "Stock.__len__" = true) (kL : PySem.W.keepIn K (.ref fL) = true)
    {pP : Addr} {r0P : List Value} (aP : PySem.W.findIn K (.ref C) "names" = some (some (.ref pP))) (gP : PySem.W.specialIn K (.ref pP) "__get__" = some (some (.builtin "property.__get__"))) (tP : PySem.W.takesIn K (.ref pP) = some true) (iP : PySem.W.recIn K pP "property" = some (.ref fP :: r0P)) (lP : K.lookup fP = some ⟨ocP, odP, .func (PySem.W.fnOf "names" "Stock.names" (defArgs s_Stock_names) (defBody s_Stock_names) (defScope s_Stock_names) .none kVP dcP pmP anP cdP ctP), slP⟩) (cP : PySem.W.codeIn K cdP "Stock.names" = true) (kP : PySem.W.keepIn K (.ref fP) = true)
    (aCC : PySem.W.nsIn K mainGlobals "Stock" = some (some (.ref C))) (pgC : PySem.W.plainGet K C Str.empty = true) (hdC : PySem.W.hasDictIn K C = true) (poC : PySem.W.plainOver K C = true) (saC : PySem.W.findIn K (.ref C) "__setattr__" = some (some (.builtin "object.__setattr__"))) (mkC : PySem.W.makesIn K C = true) (kcC : PySem.W.keepIn K (.ref C) = true) (nCsize : PySem.W.findIn K (.ref C) "size" = some none) (nCstamps : PySem.W.findIn K (.ref C) "stamps" = some none) (nCstamp_of : PySem.W.findIn K (.ref C) "_stamp_of" = some none)
    (xaN : PySem.W.nsIn K mainGlobals "UnknownName" = some (some (.ref CU))) (xaS : PySem.W.nsIn K mainGlobals "StampError" = some (some (.ref CS))) (xaU : PySem.W.nsIn K mainGlobals "BadName" = some (some (.ref CW))) (xaT : PySem.W.nsIn K mainGlobals "NameTaken" = some (some (.ref CT))) (xcl : K.lookup CU = some (excClassObj xnm xq CU xN xbs [.ref CS, .type "ValueError", .type "Exception", .type "BaseException", .type "object"] true xsn xsub xab xcol xdd x0 x1 x2 x3 x5 "ValueError.__new__")) (xsa : PySem.W.findIn K (.ref CU) "__setattr__" = some (some (.builtin "object.__setattr__"))) (xga : PySem.W.findIn K (.ref CU) "__getattribute__" = some (some (.builtin "BaseException.__getattribute__"))) (xgg : PySem.W.findIn K (.ref CU) "__getattr__" = some none) (xnr : PySem.W.findIn K (.ref CU) "name" = some none) (xeN : PySem.W.subIn K (.ref CU) (.type "BaseException") = some true) (xtN : PySem.W.typeIn K (.ref CU) = some (.type "type")) (xkN : PySem.W.keepIn K (.ref CU) = true) (xhd : PySem.W.hasDictIn K CU = true) (xiN : PySem.W.isClsIn K CU = true) (xoc : PySem.W.findIn K (.ref CU) "__class__" = some (some (.builtin "object.__class__"))) (xog : PySem.W.specialIn K (.builtin "object.__class__") "__get__" = some (some (.builtin "getset_descriptor.__get__"))) (xot : PySem.W.takesIn K (.builtin "object.__class__") = some true) (xmO : PySem.W.mroIn K CU (.type "object") = some true) (xmN : PySem.W.mroIn K CU (.ref CU) = some true) (xmS : PySem.W.mroIn K CU (.ref CS) = some true) (xmU : PySem.W.mroIn K CU (.ref CW) = some false) (xmT : PySem.W.mroIn K CU (.ref CT) = some false) (xmV : PySem.W.mroIn K CU (.type "ValueError") = some true) (xbS : PySem.W.mroIn K CS (.type "BaseException") = some true) (xbN : PySem.W.mroIn K CU (.type "BaseException") = some true) (xiS : PySem.W.isClsIn K CS = true) (xtS : PySem.W.typeIn K (.ref CS) = some (.type "type")) (xiU : PySem.W.isClsIn K CW = true) (xtU : PySem.W.typeIn K (.ref CW) = some (.type "type")) (xiT : PySem.W.isClsIn K CT = true) (xtT : PySem.W.typeIn K (.ref CT) = some (.type "type")) (xI : PySem.W.findIn K (.ref CU) "__init__" = some (some (.ref fU))) (xIt : PySem.W.typeIn K (.ref fU) = some (.type "function")) (xIl : K.lookup fU = some ⟨ocO, odO, .func (PySem.W.fnOf "__init__" "UnknownName.__init__" (defArgs s_UnknownName___init__) (defBody s_UnknownName___init__) (defScope s_UnknownName___init__) .none kVO dcO pmO anO cdO ctO), slO⟩) (xIc : PySem.W.codeIn K cdO "UnknownName.__init__" = true) (xIk : PySem.W.keepIn K (.ref fU) = true) (ybP : PySem.W.nsIn K mainGlobals "BadPrices" = some (some (.ref CB))) (ybC : PySem.W.nsIn K mainGlobals "BadChances" = some (some (.ref CC))) (ybX : PySem.W.excIn K CB [.type "ValueError", .type "Exception", .type "BaseException", .type "object"] "ValueError.__new__" = true) (ybk : PySem.W.keepIn K (.ref CB) = true) (ybs : PySem.W.subIn K (.ref CB) (.type "BaseException") = some true) (ybt : PySem.W.typeIn K (.ref CB) = some (.type "type")) (ybg : PySem.W.findIn K (.ref CB) "__getattribute__" = some (some (.builtin "BaseException.__getattribute__"))) (yba : PySem.W.findIn K (.ref CB) "__getattr__" = some none) (ybd : PySem.W.hasDictIn K CB = true) (ybc : PySem.W.findIn K (.ref CB) "__class__" = some (some (.builtin "object.__class__"))) (ybo : PySem.W.mroIn K CB (.type "object") = some true) (ybS : PySem.W.mroIn K CB (.ref CS) = some true) (ybV : PySem.W.mroIn K CB (.type "ValueError") = some true) (ybm : PySem.W.mroIn K CB (.ref CB) = some true) (ybU : PySem.W.mroIn K CB (.ref CU) = some false) (ybH : PySem.W.mroIn K CB (.ref CC) = some false) (yuB : PySem.W.mroIn K CU (.ref CB) = some false) (ybi : PySem.W.isClsIn K CB = true) (yci : PySem.W.isClsIn K CC = true) (yct : PySem.W.typeIn K (.ref CC) = some (.type "type")) (hcs : cd9 = .ref cSub)
    (gD : PySem.W.nsIn K mainGlobals "DASH" = some (some (.str xD tD))) (gL : PySem.W.nsIn K mainGlobals "LETTERS" = some (some (.str xL tL))) (gM : PySem.W.nsIn K mainGlobals "MARKS" = some (some (.str xM tM))) (gG : PySem.W.nsIn K mainGlobals "DIGITS" = some (some (.str xG tG))) (gN : PySem.W.nsIn K mainGlobals "LONGEST" = some (some (.int 30 nL))) (gO : PySem.W.nsIn K mainGlobals "LONGEST_NAME" = some (some (.int 8 nN))) (eD : xD = S [45]) (eL : xL = S letters) (eM : xM = S alls) (eG : xG = S digits)
    (z_len : PySem.W.nsIn K mainGlobals "len" = some none)
    (z_int : PySem.W.nsIn K mainGlobals "int" = some none)
    (z_bool : PySem.W.nsIn K mainGlobals "bool" = some none)
    (z_str : PySem.W.nsIn K mainGlobals "str" = some none)
    (z_tuple : PySem.W.nsIn K mainGlobals "tuple" = some none)
    (z_list : PySem.W.nsIn K mainGlobals "list" = some none)
    (z_zip : PySem.W.nsIn K mainGlobals "zip" = some none)
    (z_enumerate : PySem.W.nsIn K mainGlobals "enumerate" = some none)
    (z_range : PySem.W.nsIn K mainGlobals "range" = some none)
    (z_max : PySem.W.nsIn K mainGlobals "max" = some none)
    (z_min : PySem.W.nsIn K mainGlobals "min" = some none)
    (z_sum : PySem.W.nsIn K mainGlobals "sum" = some none)
    (z_all : PySem.W.nsIn K mainGlobals "all" = some none)
    (z_any : PySem.W.nsIn K mainGlobals "any" = some none)
    (z_isinstance : PySem.W.nsIn K mainGlobals "isinstance" = some none)
    (z_iter : PySem.W.nsIn K mainGlobals "iter" = some none)
    (z_sorted : PySem.W.nsIn K mainGlobals "sorted" = some none)
    (z_reversed : PySem.W.nsIn K mainGlobals "reversed" = some none)
    (z_ValueError : PySem.W.nsIn K mainGlobals "ValueError" = some none)
    (z_dict : PySem.W.nsIn K mainGlobals "dict" = some none)
    : ∃ fd : FuncData, (∀ (s : Shared) (v : Value), BindsTo s fd ⟨[v], []⟩ [("script", v)]) ∧ ∀ base : Heap, K.In base → base.Ns mainGlobals mg → LamX.TabB base mg cSub Pt → FnOk l.prog w K mg base CX0 6 fa fd ["script"] (spLawT K Pt) := by
  have e := hfa.symm.trans (PySem.W.mg_of X G a24)
  cases e
  subst eD
  subst eL
  subst eM
  subst eG
  have T : Txt K mg := ⟨⟨_, PySem.W.mg_of X G gD⟩, ⟨_, PySem.W.mg_of X G gL⟩, ⟨_, PySem.W.mg_of X G gM⟩, ⟨_, PySem.W.mg_of X G gN⟩, ⟨_, PySem.W.mg_of X G gG⟩, ⟨_, PySem.W.mg_of X G gO⟩, PySem.W.mg_none_of X G z_len, PySem.W.mg_none_of X G z_int, PySem.W.mg_none_of X G z_bool, PySem.W.mg_none_of X G z_str, PySem.W.mg_none_of X G z_tuple, PySem.W.mg_none_of X G z_list, PySem.W.mg_none_of X G z_zip, PySem.W.mg_none_of X G z_enumerate, PySem.W.mg_none_of X G z_range, PySem.W.mg_none_of X G z_max, PySem.W.mg_none_of X G z_min, PySem.W.mg_none_of X G z_sum, PySem.W.mg_none_of X G z_all, PySem.W.mg_none_of X G z_any, PySem.W.mg_none_of X G z_isinstance, PySem.W.mg_none_of X G z_iter, PySem.W.mg_none_of X G z_sorted, PySem.W.mg_none_of X G z_reversed⟩
  have TS : StTxt K mg C := ⟨⟨pgC, hdC, poC, saC⟩, nCsize, nCstamps, nCstamp_of, PySem.W.mg_of X G aCC⟩
  have TU : UnTxt K mg CU fU CS CT CW :=
    { gN := PySem.W.mg_of X G xaN, gS := PySem.W.mg_of X G xaS, gT := PySem.W.mg_of X G xaT, gB := PySem.W.mg_of X G xaU, bV := PySem.W.mg_none_of X G z_ValueError,
      oex := ⟨⟨xnm, xq, xN, xbs, _, xsn, xsub, xab, xcol, xdd, x0, x1, x2, x3, x5, xcl, (show PySem.HandSPX.refsVE [.type "ValueError", .type "Exception", .type "BaseException", .type "object"] = true by decide +kernel)⟩, xsa, xeN, xtN, xkN⟩,
      iC := xI, tI := xIt, nr := xnr, xf := ⟨xga, xgg, xeN, xhd⟩, xd := ⟨xiN, xga, xgg, xeN, xoc, xog, xot, xmO⟩,
      em := exm_is xbN xiN xtN xmN, ems := exm_is xbS xiS xtS xmS, kT := kit_no xmN xiT xtT xmT, kB := kit_no xmN xiU xtU xmU, kV := kit_ve xmV }
  have TBp : BpTxt K mg CB CS CU CC :=
    { gP := PySem.W.mg_of X G ybP, gS := PySem.W.mg_of X G xaS, gU := PySem.W.mg_of X G xaN, gC := PySem.W.mg_of X G ybC, bV := PySem.W.mg_none_of X G z_ValueError, bD := PySem.W.mg_none_of X G z_dict, xP := ybX, kP := ybk, ra := ybs, ta := ybt,
      ex := ⟨ybg, yba, ybs, ybd, ybc, xog, xot, ybo⟩, ems := exm_is xbS xiS xtS ybS, kP1 := kit_own, kV := kit_ve ybV, kUC := kit_two (kit_no ybm xiN xtN ybU) (kit_no ybm yci yct ybH), uP := kit_no xmN ybi ybt yuB, uS := kit_yes xiS xtS xmS }
  have FO := fun_mk (st := s_UnknownName___init__) xIl xIc xIk
  have bO := FO.binds (ps := ["self", "name"]) fun _ _ _ _ _ _ us hl => match us, hl with | [_, _], _ => rfl
  have hc : CodeAt K mg "price_order" cSub := fun f o fd hm hl hd => by
    have e := hm.symm.trans (PySem.W.mg_of X G a9)
    cases e
    rw [l9] at hl
    cases hl
    cases hd
    exact hcs
  have F := fun_mk (st := s_law) l24 c24 k24
  have FI := fun_mk (st := s_Stock___init__) lI cI kI
  have bI := FI.binds (ps := ["self", "size", "stamps"]) fun _ _ _ _ _ _ us hl => match us, hl with | [_, _, _], _ => rfl
  have FN := fun_mk (st := s_Stock___contains__) lN cN kN
  have bN := FN.binds (ps := ["self", "name"]) fun _ _ _ _ _ _ us hl => match us, hl with | [_, _], _ => rfl
  have FL := fun_mk (st := s_Stock___len__) lL cL kL
  have bL := FL.binds (ps := ["self"]) fun _ _ _ _ _ _ us hl => match us, hl with | [_], _ => rfl
  have FP := fun_mk (st := s_Stock_names) lP cP kP
  have bP := FP.binds (ps := ["self"]) fun _ _ _ _ _ _ us hl => match us, hl with | [_], _ => rfl
  exact ⟨_, fun s v => .of_eq rfl, fun base _ _ TB => fn_all T TS TU FO bO TBp TB hc F FI bI ⟨mkC, aI, iI, kcC⟩ FN bN aN iN FL bL aL iL FP bP ⟨aP, gP, tP, ⟨_, iP⟩⟩ (at_as_tuples X G a0 l0 c0 k0) (at_is_layer X G a1 l1 c1 k1) (at_cells_of X G a2 l2 c2 k2) (at_is_name X G a3 l3 c3 k3) (at_is_stamp X G a4 l4 c4 k4) (at_check_pairs X G a5 l5 c5 k5) (at_checked_names X G a6 l6 c6 k6) (at_prices_by_name X G a7 l7 c7 k7) (at_row_cost X G a8 l8 c8 k8) (at_price_order X G a9 l9 c9 k9) (at__law_whole X G a10 l10 c10 k10) (at__law_cell X G a11 l11 c11 k11) (at__law_digits X G a12 l12 c12 k12) (at__law_names X G a13 l13 c13 k13) (at__law_prices X G a14 l14 c14 k14) (at__law_place X G a15 l15 c15 k15) (at__law_strange X G a16 l16 c16 k16) (at__law_sum X G a17 l17 c17 k17) (at__law_ascending X G a18 l18 c18 k18) (at__law_cost_refused X G a19 l19 c19 k19) (at__law_order_refused X G a20 l20 c20 k20) (at__law_unknown X G a21 l21 c21 k21) (at__law_dots X G a22 l22 c22 k22) (at__law_miscount X G a23 l23 c23 k23)⟩
end Mi
open PySem PySem.W PyProof.Rows
set_option maxHeartbeats 0 in
theorem PySem.Challenge.cw_stampsheets_k49_row_costs_holds : PySem.Challenge.rw_stampsheets_k49_row_costs.Holds := by
  w_on; o_law; k_head; (case hw => w_witness2)
  k_fill
  refine LamX.walk_ofTs (l := PySem.Challenge.rw_stampsheets_k49_row_costs) (n := 63) (k := 6) (x := "script") (CX := fun _ => L2.CX0) rfl (by decide) rfl ⟨rfl, by decide, by decide⟩ (fun w h Y => PySem.W.km_in_of Y) ?F (fun _ _ _ _ _ h => h)
  case F =>
    intro w mg fa h Y KX G hmg
    refine' Mi.law_at ?hCode (PySem.W.km_tabs_of Y _ List.mem_cons_self) ?nK ?rest
    case' rest => refine' Mi.all_mk KX G hmg ?a0 ?l0 ?c0 ?k0 ?a1 ?l1 ?c1 ?k1 ?a2 ?l2 ?c2 ?k2 ?a3 ?l3 ?c3 ?k3 ?a4 ?l4 ?c4 ?k4 ?a5 ?l5 ?c5 ?k5 ?a6 ?l6 ?c6 ?k6 ?a7 ?l7 ?c7 ?k7 ?a8 ?l8 ?c8 ?k8 ?a9 ?l9 ?c9 ?k9 ?a10 ?l10 ?c10 ?k10 ?a11 ?l11 ?c11 ?k11 ?a12 ?l12 ?c12 ?k12 ?a13 ?l13 ?c13 ?k13 ?a14 ?l14 ?c14 ?k14 ?a15 ?l15 ?c15 ?k15 ?a16 ?l16 ?c16 ?k16 ?a17 ?l17 ?c17 ?k17 ?a18 ?l18 ?c18 ?k18 ?a19 ?l19 ?c19 ?k19 ?a20 ?l20 ?c20 ?k20 ?a21 ?l21 ?c21 ?k21 ?a22 ?l22 ?c22 ?k22 ?a23 ?l23 ?c23 ?k23 ?a24 ?l24 ?c24 ?k24 ?aI ?iI ?lI ?cI ?kI ?aN ?iN ?lN ?cN ?kN ?aL ?iL ?lL ?cL ?kL ?aP ?gP ?tP ?iP ?lP ?cP ?kP ?aCC ?pgC ?hdC ?poC ?saC ?mkC ?kcC ?nCsize ?nCstamps ?nCstamp_of ?xaN ?xaS ?xaU ?xaT ?xcl ?xsa ?xga ?xgg ?xnr ?xeN ?xtN ?xkN ?xhd ?xiN ?xoc ?xog ?xot ?xmO ?xmN ?xmS ?xmU ?xmT ?xmV ?xbS ?xbN ?xiS ?xtS ?xiU ?xtU ?xiT ?xtT ?xI ?xIt ?xIl ?xIc ?xIk ?ybP ?ybC ?ybX ?ybk ?ybs ?ybt ?ybg ?yba ?ybd ?ybc ?ybo ?ybS ?ybV ?ybm ?ybU ?ybH ?yuB ?ybi ?yci ?yct ?hcs ?gD ?gL ?gM ?gG ?gN ?gO ?eD ?eL ?eM ?eG ?z_len ?z_int ?z_bool ?z_str ?z_tuple ?z_list ?z_zip ?z_enumerate ?z_range ?z_max ?z_min ?z_sum ?z_all ?z_any ?z_isinstance ?z_iter ?z_sorted ?z_reversed ?z_ValueError ?z_dict
    case aCC => k_is
    case xaN => k_is
    case xaS => k_is
    case xaU => k_is
    case xaT => k_is
    case ybP => k_is
    case ybC => k_is
    case xcl => k_is
    case xI => k_is
    case a0 => k_is
    case l0 => k_is
    case c0 => k_is
    case k0 => k_is
    case a1 => k_is
    case l1 => k_is
    case c1 => k_is
    case k1 => k_is
    case a2 => k_is
    case l2 => k_is
    case c2 => k_is
    case k2 => k_is
    case a3 => k_is
    case l3 => k_is
    case c3 => k_is
    case k3 => k_is
    case a4 => k_is
    case l4 => k_is
    case c4 => k_is
    case k4 => k_is
    case a5 => k_is
    case l5 => k_is
    case c5 => k_is
    case k5 => k_is
    case a6 => k_is
    case l6 => k_is
    case c6 => k_is
    case k6 => k_is
    case a7 => k_is
    case l7 => k_is
    case c7 => k_is
    case k7 => k_is
    case a8 => k_is
    case l8 => k_is
    case c8 => k_is
    case k8 => k_is
    case a9 => k_is
    case l9 => k_is
    case c9 => k_is
    case k9 => k_is
    case a10 => k_is
    case l10 => k_is
    case c10 => k_is
    case k10 => k_is
    case a11 => k_is
    case l11 => k_is
    case c11 => k_is
    case k11 => k_is
    case a12 => k_is
    case l12 => k_is
    case c12 => k_is
    case k12 => k_is
    case a13 => k_is
    case l13 => k_is
    case c13 => k_is
    case k13 => k_is
    case a14 => k_is
    case l14 => k_is
    case c14 => k_is
    case k14 => k_is
    case a15 => k_is
    case l15 => k_is
    case c15 => k_is
    case k15 => k_is
    case a16 => k_is
    case l16 => k_is
    case c16 => k_is
    case k16 => k_is
    case a17 => k_is
    case l17 => k_is
    case c17 => k_is
    case k17 => k_is
    case a18 => k_is
    case l18 => k_is
    case c18 => k_is
    case k18 => k_is
    case a19 => k_is
    case l19 => k_is
    case c19 => k_is
    case k19 => k_is
    case a20 => k_is
    case l20 => k_is
    case c20 => k_is
    case k20 => k_is
    case a21 => k_is
    case l21 => k_is
    case c21 => k_is
    case k21 => k_is
    case a22 => k_is
    case l22 => k_is
    case c22 => k_is
    case k22 => k_is
    case a23 => k_is
    case l23 => k_is
    case c23 => k_is
    case k23 => k_is
    case a24 => k_is
    case l24 => k_is
    case c24 => k_is
    case k24 => k_is
    case aI => k_is
    case iI => k_is
    case lI => k_is
    case cI => k_is
    case kI => k_is
    case aN => k_is
    case iN => k_is
    case lN => k_is
    case cN => k_is
    case kN => k_is
    case aL => k_is
    case iL => k_is
    case lL => k_is
    case cL => k_is
    case kL => k_is
    case aP => k_is
    case gP => k_is
    case tP => k_is
    case iP => k_is
    case lP => k_is
    case cP => k_is
    case kP => k_is
    case pgC => k_is
    case hdC => k_is
    case poC => k_is
    case saC => k_is
    case mkC => k_is
    case kcC => k_is
    case nCsize => k_is
    case nCstamps => k_is
    case nCstamp_of => k_is
    case xsa => k_is
    case xga => k_is
    case xgg => k_is
    case xnr => k_is
    case xeN => k_is
    case xtN => k_is
    case xkN => k_is
    case xhd => k_is
    case xiN => k_is
    case xoc => k_is
    case xog => k_is
    case xot => k_is
    case xmO => k_is
    case xmN => k_is
    case xmS => k_is
    case xmU => k_is
    case xmT => k_is
    case xmV => k_is
    case xbS => k_is
    case xbN => k_is
    case xiS => k_is
    case xtS => k_is
    case xiU => k_is
    case xtU => k_is
    case xiT => k_is
    case xtT => k_is
    case xIt => k_is
    case xIl => k_is
    case xIc => k_is
    case xIk => k_is
    case ybX => k_exc
    case ybk => k_is
    case ybs => k_is
    case ybt => k_is
    case ybg => k_is
    case yba => k_is
    case ybd => k_is
    case ybc => k_is
    case ybo => k_is
    case ybS => k_is
    case ybV => k_is
    case ybm => k_is
    case ybU => k_is
    case ybH => k_is
    case yuB => k_is
    case ybi => k_is
    case yci => k_is
    case yct => k_is
    case gD => k_is
    case gL => k_is
    case gM => k_is
    case gG => k_is
    case gN => k_is
    case gO => k_is
    case z_len => k_is
    case z_int => k_is
    case z_bool => k_is
    case z_str => k_is
    case z_tuple => k_is
    case z_list => k_is
    case z_zip => k_is
    case z_enumerate => k_is
    case z_range => k_is
    case z_max => k_is
    case z_min => k_is
    case z_sum => k_is
    case z_all => k_is
    case z_any => k_is
    case z_isinstance => k_is
    case z_iter => k_is
    case z_sorted => k_is
    case z_reversed => k_is
    case z_ValueError => k_is
    case z_dict => k_is
    case eD => rfl
    case eL => rfl
    case eM => rfl
    case eG => rfl
    case hcs => rfl
    case hCode => exact PySem.W.codeHd_of_K KX (by kernel_rfl)
    case nK => kernel_rfl

