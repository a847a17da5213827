import PyProof.Rows.All
import Wide.All
import OpenK.AllK
import Wide.FinOn
import PySem.Challenge.RW_stampsheets_k35_common_order_whole
import HandS.Base
import HandS.Call
import HandS.List
import HandS.Comp
import HandS.Ends
import HandS.Dict
import HandS.Iter
import HandS.Text
import HandS.Words
import HandS.Evl
import KE.GoesNew
import PyProof.EnumMake
import HandS.ForMost
import HandS.IsInst
import HandS.Replace
import HandS.SetFor
import HandS.ReplaceList
import PyProof.StrReplace2
import HandS.Steps
import KE.KEqSeq
import KE.SortKeyHeap
import KE.KSortKey
import HandS.SortKw
import HandS.Style
import HandS.TryOnly
import HandS.Gcd
import HandS.Wide
import HandS.IterVal
import HandS.DictComp
import KE.KOwnIter
import KE.GoesMore
import HandS.DeepEq
import KE.KOwnIn
import KE.KRevSl
import PyProof.SliceStr2
import HandS.Property
set_option Elab.async false
set_option linter.all false
set_option maxRecDepth 100000
set_option maxHeartbeats 2000000
namespace Mi
open PySem PySem.Spec PyProof.Rows L2

/-! ### pairs that are known ahead, each in a new tuple -/
def ItP (ps : List (V × V)) : It :=
  ⟨fun i _ => i < ps.length, fun i H v H' => ∃ T x y, v = .ref T ∧ H T = none ∧ H' = upd H T (.tup [x, y]) ∧ ps[i]? = some (x, y), fun i _ => i = ps.length⟩
def YP (ps : List (V × V)) (i : Nat) (h0 : Heap) (v : Value) (h : Heap) : Prop :=
  ∃ T a b, v = .ref T ∧ h0.objs.size ≤ T ∧ (∃ x y, ps[i]? = some (x, y) ∧ RelV x a ∧ RelV y b) ∧ h.IsTuple T #[a, b]
theorem turn_pairs {P : Program} {w : World} {K : PySem.W.Frag} {tg : Expr} {I : Addr} {fp wr : List Addr} {n : Nat} {St : Nat → Heap → Prop} (ps : List (V × V)) (hn : ps.length = n)
    (mem : I ∈ fp) (obj : ∀ i h, St i h → ∀ b ∈ fp, ∃ o, h.get? b = some o ∧ ∀ v, o.data ≠ .cell v)
    (W : ∀ A : Around, A.handled = none → GoesN P w A tg I fp wr n (YP ps) St) (A0 : Around) (hA0 : A0.handled = none)
    (self : ∀ (A : Around) (i : Nat) (s : Shared) (Q : Value → Shared → Prop) (E : Value → Shared → Prop), St i s.heap → Q (.ref I) s → wpAny (model P w) A (pyIter (.ref I)) Q E s) : Turn P w K tg (ItP ps) fp I St where
  mem := mem
  obj := obj
  keep := (W A0 hA0).frame
  item := by
    intro X hP hw hK hc i pins s σ H E I hf st hg
    subst hP hw hK
    have W1 := W X.A (I.ok.hd hc)
    refine W1.goes i s _ E (by rw [← hn]; exact hg) st fun v h' tk hY st' hk htk => ?_
    obtain ⟨T, a, b, rfl, hT, ⟨x, y, hxy, ra, rb⟩, ht⟩ := hY
    have new : ObjOk X.prog X.w (upd H T (.tup [x, y])) h' T (.tup [x, y]) := ⟨by show 2 ≤ sizeLine; decide, [a, b], .cons ra (.cons rb .nil), ht⟩
    have I1 := I.turnedNew (t' := tk) (ch := fp) (fun c o hb q => hk c o (fun z => hb (W1.sub c z)) q) hf hT new
    refine ⟨.ref T, _, I1, rfl, ⟨T, x, y, rfl, I.hok.fresh hT, rfl, hxy⟩, st', fun c hcm => ?_⟩
    obtain ⟨o, ho, _⟩ := obj i _ st c hcm
    rw [upd_ne (Nat.ne_of_lt (Nat.lt_of_lt_of_le (Heap.lt_size ho) hT))]
    exact (hf c hcm).1
  done := by
    intro X hP hw hK hc i pins s σ H E I hf st hg
    subst hP hw hK
    have W1 := W X.A (I.ok.hd hc)
    have e : i = n := by rw [← hn]; exact hg
    subst e
    refine W1.stops s _ E st fun h' tk hk htk => ?_
    exact I.turnedL (t' := tk) (ch := fp) (fun c o hb q => hk c o (fun z => hb (W1.sub c z)) q) hf
  self := self

/-! ### texts, sign by sign -/
def sgn (c : Nat) : V := .str ⟨#[c]⟩
theorem text_obj {h : Heap} {a : Addr} {ty : String} {x : Str} {t : Tok} {i : Nat} (st : h.IsStrIter a ty x t i) : ∃ o, h.get? a = some o ∧ ∀ v, o.data ≠ .cell v := by
  obtain ⟨o, e, c, d⟩ := st
  exact ⟨o, e, fun v z => by rw [d] at z; cases z⟩

def zipS (x y : Str) : List (V × V) := (x.cps.toList.zip y.cps.toList).map fun p => (sgn p.1, sgn p.2)
theorem zipS_len (x y : Str) : (zipS x y).length = min x.cps.size y.cps.size := by simp [zipS]
theorem zipS_get {x y : Str} {i c d : Nat} (h1 : x.cps[i]? = some c) (h2 : y.cps[i]? = some d) : (zipS x y)[i]? = some (sgn c, sgn d) := by
  have e1 : x.cps.toList[i]? = some c := by simpa using h1
  have e2 : y.cps.toList[i]? = some d := by simpa using h2
  unfold zipS
  rw [List.getElem?_map, List.getElem?_zip_eq_some (z := (c, d)) |>.mpr ⟨e1, e2⟩]
  rfl
def iZipS (ta : TA) : TI := fun σ H R => ta σ H fun vs H1 => ∃ x y, vs = [.str x, .str y] ∧ R (ItP (zipS x y)) H1
theorem pi_zipS {X : Cx} {e e2 : Expr} {ta : TA} {p pos tpos : Pos} {elts : List Expr} {kk : Nat} (hg : Gl X "zip") (hm : X.mg "zip" = none) (ha : PA X [e, e2] ta)
    (hs : starEach [e, e2] X.env = (false, eval e X.env) :: starEach [e2] X.env := by rfl) (hpl : (backTo pos (starEach [e2] X.env)).any (·.1) = false := by rfl) (hc : X.calm = true := by rfl) :
    PI X (.Tuple elts kk tpos) (.Call (.Name "zip" p) [e, e2] [] pos) (iZipS ta) := by
  refine ⟨fun pins s σ H R I h => ?_⟩
  refine Call_ (ld_blt I hg hm PyProof.Rows.boot_zip (PyProof.Rows.callWith_type1 (thn (ha.run pos pins s σ H _ I h) fun us s1 ⟨vs, H1, I1, r1, q1⟩ => ?_) hs hpl))
  obtain ⟨x, y, ex, q⟩ := q1
  subst ex
  cases r1 with
  | cons r rr =>
    cases rr with
    | cons r' rr =>
      cases rr
      obtain ⟨t, rfl⟩ := r
      obtain ⟨u, rfl⟩ := r'
      refine zip_begins2 (begins_text x t) (begins_text y u) trivial trivial fun h' hz hTI hTO h1 h2 hsz hk => wpAny_pyIter_zip hz ?_
      have I2 : Inv X pins σ H1 { s1 with heap := h' } := I1.kept (t' := s1.toks) hk
      have i1 : h'.IsStrIter s1.heap.objs.size (strIterType x) x t 0 := ⟨_, h1, rfl, rfl⟩
      have i2 : h'.IsStrIter (s1.heap.objs.size + 1) (strIterType y) y u 0 := ⟨_, h2, rfl, rfl⟩
      refine ⟨s1.heap.objs.size + 4, [s1.heap.objs.size + 4, s1.heap.objs.size + 2, s1.heap.objs.size + 3, s1.heap.objs.size, s1.heap.objs.size + 1], _, ItP (zipS x y), H1, rfl, I2,
        turn_pairs (wr := [s1.heap.objs.size + 4, s1.heap.objs.size + 3, s1.heap.objs.size, s1.heap.objs.size + 1]) (zipS x y) (zipS_len x y) (by simp) (St := fun i h => IsZip h (s1.heap.objs.size + 4) (s1.heap.objs.size + 2) (s1.heap.objs.size + 3) .none ∧ IsTupOf2 h (s1.heap.objs.size + 2) (.ref s1.heap.objs.size) (.ref (s1.heap.objs.size + 1)) ∧ (∃ a1 a2, IsTupOf2 h (s1.heap.objs.size + 3) a1 a2) ∧ h.IsStrIter s1.heap.objs.size (strIterType x) x t i ∧ h.IsStrIter (s1.heap.objs.size + 1) (strIterType y) y u i) ?_ (fun A hA => ?_) X.A (I1.ok.hd hc) (fun A i s Q E st h => wpAny_pyIter_zip st.1 h),
        ⟨hz, hTI, ⟨_, _, hTO⟩, i1, i2⟩, fun c hcm => ?_, q⟩
      · rintro i h ⟨z1, z2, ⟨_, _, z3⟩, z4, z5⟩ b hb
        have e' : b = s1.heap.objs.size + 4 ∨ b = s1.heap.objs.size + 2 ∨ b = s1.heap.objs.size + 3 ∨ b = s1.heap.objs.size ∨ b = s1.heap.objs.size + 1 := by simpa using hb
        rcases e' with q | q | q | q | q
        · rw [q]; exact ⟨_, z1, fun v q => nomatch q⟩
        · rw [q]; exact ⟨_, z2, fun v q => nomatch q⟩
        · rw [q]; exact ⟨_, z3, fun v q => nomatch q⟩
        · rw [q]; exact text_obj z4
        · rw [q]; exact text_obj z5
      · have D1 := Draws.text (prog := X.prog) (w := X.w) (A := A.in1) hA s1.heap.objs.size x t
        have D2 := Draws.text (prog := X.prog) (w := X.w) (A := A.in1) hA (s1.heap.objs.size + 1) y u
        have S : ZipSep2 (s1.heap.objs.size + 4) (s1.heap.objs.size + 2) (s1.heap.objs.size + 3) s1.heap.objs.size (s1.heap.objs.size + 1) [s1.heap.objs.size] [s1.heap.objs.size + 1] :=
          zip_sep2 (N := s1.heap.objs.size) (fp1 := []) (fp2 := []) (fun _ h => nomatch h) (fun _ h => nomatch h)
        refine (GoesN.zip2 S D1 D2).mono fun i h0 v h _ ⟨T, a, b, ev, hT, ⟨c, u1, hc1, ea⟩, ⟨d, u2, hd1, eb⟩, ht⟩ => ⟨T, a, b, ev, hT, ⟨sgn c, sgn d, zipS_get hc1 hd1, ⟨u1, ea⟩, ⟨u2, eb⟩⟩, ht⟩
      · have e' : c = s1.heap.objs.size + 4 ∨ c = s1.heap.objs.size + 2 ∨ c = s1.heap.objs.size + 3 ∨ c = s1.heap.objs.size ∨ c = s1.heap.objs.size + 1 := by simpa using hcm
        have hle : s1.heap.objs.size ≤ c := by
          rcases e' with z | z | z | z | z
          · rw [z]; exact Nat.le_add_right _ _
          · rw [z]; exact Nat.le_add_right _ _
          · rw [z]; exact Nat.le_add_right _ _
          · rw [z]; exact Nat.le_refl _
          · rw [z]; exact Nat.le_add_right _ _
        exact I1.fpOk hle (I1.hok.fresh hle)

def enumS (x : Str) : List (V × V) := x.cps.toList.zipIdx.map fun p => (.int (p.2 : Int), sgn p.1)
theorem enumS_len (x : Str) : (enumS x).length = x.cps.size := by simp [enumS]
theorem enumS_get {x : Str} {i c : Nat} (h1 : x.cps[i]? = some c) : (enumS x)[i]? = some (.int (i : Int), sgn c) := by
  have e1 : x.cps.toList[i]? = some c := by simpa using h1
  unfold enumS
  rw [List.getElem?_map, List.getElem?_zipIdx, e1]
  simp
def iEnumS (ta : TA) : TI := fun σ H R => ta σ H fun vs H1 => ∃ x, vs = [.str x] ∧ R (ItP (enumS x)) H1
theorem pi_enumS {X : Cx} {e : Expr} {ta : TA} {p pos tpos : Pos} {elts : List Expr} {kk : Nat} (hg : Gl X "enumerate") (hm : X.mg "enumerate" = none) (ha : PA X [e] ta) (hs : starEach [e] X.env = [(false, eval e X.env)] := by rfl) (hc : X.calm = true := by rfl) :
    PI X (.Tuple elts kk tpos) (.Call (.Name "enumerate" p) [e] [] pos) (iEnumS ta) := by
  refine ⟨fun pins s σ H R I h => ?_⟩
  refine Call_ (ld_blt I hg hm boot_enumerate (PyProof.Rows.callWith_type1 (thn (ha.run pos pins s σ H _ I h) fun us s1 ⟨vs, H1, I1, r1, q1⟩ => ?_) hs rfl))
  obtain ⟨x, ex, q⟩ := q1
  subst ex
  cases r1 with
  | cons r rr =>
    cases rr
    obtain ⟨t, rfl⟩ := r
    refine call_enumerate_str fun h' he hit hsz hk => wpAny_pyIter_enum he ?_
    have I2 : Inv X pins σ H1 { s1 with heap := h' } := I1.kept (t' := s1.toks) hk
    refine ⟨s1.heap.objs.size + 1, [s1.heap.objs.size + 1, s1.heap.objs.size], _, ItP (enumS x), H1, rfl, I2,
      turn_pairs (wr := [s1.heap.objs.size + 1, s1.heap.objs.size]) (enumS x) (enumS_len x) (by simp) (St := fun i h => (∃ old, IsEnum h (s1.heap.objs.size + 1) s1.heap.objs.size (0 + (i : Int)) old) ∧ h.IsStrIter s1.heap.objs.size (strIterType x) x t i) ?_ (fun A hA => ?_) X.A (I1.ok.hd hc) (fun A i s Q E st h => let ⟨⟨_, he⟩, _⟩ := st; wpAny_pyIter_enum he h), ⟨⟨.none, he⟩, hit⟩, fun c hcm => ?_, q⟩
    · rintro i h ⟨⟨_, z1⟩, z2⟩ b hb
      have e' : b = s1.heap.objs.size + 1 ∨ b = s1.heap.objs.size := by simpa using hb
      rcases e' with q | q
      · rw [q]; exact ⟨_, z1, fun v q => nomatch q⟩
      · rw [q]; exact text_obj z2
    · have D1 := Draws.text (prog := X.prog) (w := X.w) (A := A.in1) hA s1.heap.objs.size x t
      refine (GoesN.enumFrom 0 D1 (s1.heap.objs.size + 1) (Nat.succ_ne_self _) (by simp) (by simp)).mono fun i h0 v h _ ⟨T, u, b, ev, hT, ⟨c, u1, hc1, eb⟩, ht⟩ => ⟨T, _, b, ev, hT, ⟨.int (i : Int), sgn c, enumS_get hc1, ⟨u, by rw [Int.zero_add]⟩, ⟨u1, eb⟩⟩, ht⟩
    · have e' : c = s1.heap.objs.size + 1 ∨ c = s1.heap.objs.size := by simpa using hcm
      have hle : s1.heap.objs.size ≤ c := by
        rcases e' with z | z
        · rw [z]; exact Nat.le_add_right _ _
        · rw [z]; exact Nat.le_refl _
      exact I1.fpOk hle (I1.hok.fresh hle)
end Mi

set_option maxHeartbeats 2000000
namespace Mi
open PySem PySem.Spec PyProof.Rows L2 Evl

/-! ### a def of the text that keeps its promise, as its callers see it -/
structure Has (P : Program) (w : World) (K : PySem.W.Frag) (mg : Str → Option Value) (base : Heap) (k : Nat) (x : Str) (ps : List Str) (sp : Sp) : Prop where
  ex : ∃ f fd, mg x = some (.ref f) ∧ PySem.W.keepIn K (.ref f) = true ∧ FnOk P w K mg base CX0 k f fd ps sp ∧ Binds K fd ps [] ∧
    (ps.length = 1 → ∀ (s : Shared) (w1 : Value), BindsTo s fd ⟨[], ps.zip [w1]⟩ (ps.zip [w1])) ∧
    (∀ p q, ps = [p, q] → ∀ (s : Shared) (w1 w2 : Value), BindsTo s fd ⟨[], [q, p].zip [w1, w2]⟩ ([p, q].zip [w2, w1]))
section
variable {X : Cx} {k : Nat} {ps : List Str} {sp : Sp} {E : XK} {x : Str} {p pos : Pos} {e : Expr} {es : List Expr} {t : TA}
theorem pe_callH (F : Has X.prog X.w X.K X.mg X.base k x ps sp) (hr : Room k X.A) (ha : PA X (e :: es) t) (hg : Gl X x := by rfl) (hdb : (x == ("__debug__" : Str)) = false := by decide)
    (he : starEach (e :: es) X.env = (false, eval e X.env) :: starEach es X.env := by rfl) (hpl : (backTo pos (starEach es X.env)).any (·.1) = false := by rfl) :
    PE X (.Call (.Name x p) (e :: es) [] pos) (tCall sp [] E0 t) := by
  obtain ⟨f, fd, hm, hk, F, hb, _⟩ := F.ex
  exact pe_call F hr hg hm hk hb .nil pass0 ha hdb he hpl
/-- f(q=.., p=..): both parameters by name, in the other order; f(p=..) -/
def tCall2 (sp : Sp) (t1 t2 : TE) : TE := fun σ H Q => tCons t1 (tCons t2 tNil) σ H fun vs H2 => ∃ v1 v2, vs = [v1, v2] ∧ sp [v2, v1] H2 Q E0
theorem pe_callH2 {a b : Str} {e1 e2 : Expr} {t1 t2 : TE} {k1 k2 : Pos} (F : Has X.prog X.w X.K X.mg X.base k x [a, b] sp) (hr : Room k X.A) (h1 : PE X e1 t1) (h2 : PE X e2 t2) (hg : Gl X x := by rfl) (hdb : (x == ("__debug__" : Str)) = false := by decide)
    (hall : (backToKw pos (keywordEach [⟨some b, e1, k1⟩, ⟨some a, e2, k2⟩] X.env)).all (·.1.isSome) = true := by rfl)
    (hks : (backToKw pos (keywordEach [⟨some b, e1, k1⟩, ⟨some a, e2, k2⟩] X.env)).filterMap (·.1) = [b, a] := by rfl)
    (hpl : (backToKw pos (keywordEach [⟨some b, e1, k1⟩, ⟨some a, e2, k2⟩] X.env)).any (·.1.isNone) = false := by rfl) :
    PE X (.Call (.Name x p) [] [⟨some b, e1, k1⟩, ⟨some a, e2, k2⟩] pos) (tCall2 sp t1 t2) := by
  obtain ⟨f, fd, hm, hk, F, _, _, hb2⟩ := F.ex
  have hkw : PK X [⟨some b, e1, k1⟩, ⟨some a, e2, k2⟩] (tCons t1 (tCons t2 tNil)) := pk_cons h1 (pk_cons h2 pk_nil)
  refine ⟨fun pins s σ H Q I h => ?_⟩
  refine wpAny_Call_Name_kw (ld_glob I hg hm ?_ hdb)
  refine PySem.W.callWith_KW0 (h₀ := X.base) I.ok.mod.kin hk hall (thn (hkw.run pos pins s σ H _ I h) fun ws s2 ⟨zs, H2, I2, rz, v1, v2, ez, q2⟩ => ⟨I2.kIn, ?_⟩) hpl
  rw [hks]
  subst ez
  obtain ⟨w1, w2, rfl, r1, r2⟩ := vals2 rz
  refine wpAny_call (codeAny_mono (F.run X.A X.stack s2 H2 ⟨[], [b, a].zip [w1, w2]⟩ [w2, w1] [v2, v1] Q E0 hr I2.env0 (hb2 a b rfl s2 w1 w2) (.cons r2 (.cons r1 .nil)) q2) fun r s' hq => ?_)
  cases r with
  | error e => exact pass0 pins σ H2 s2 e s' I2 hq
  | ok fl =>
    cases fl with
    | ret u => exact I2.after hq
    | next => exact False.elim hq
    | brk => exact False.elim hq
    | cont => exact False.elim hq
def tCall1 (sp : Sp) (t1 : TE) : TE := fun σ H Q => tCons t1 tNil σ H fun vs H2 => ∃ v1, vs = [v1] ∧ sp [v1] H2 Q E0
theorem pe_callH1 {a : Str} {e1 : Expr} {t1 : TE} {k1 : Pos} (F : Has X.prog X.w X.K X.mg X.base k x [a] sp) (hr : Room k X.A) (h1 : PE X e1 t1) (hg : Gl X x := by rfl) (hdb : (x == ("__debug__" : Str)) = false := by decide)
    (hall : (backToKw pos (keywordEach [⟨some a, e1, k1⟩] X.env)).all (·.1.isSome) = true := by rfl)
    (hks : (backToKw pos (keywordEach [⟨some a, e1, k1⟩] X.env)).filterMap (·.1) = [a] := by rfl)
    (hpl : (backToKw pos (keywordEach [⟨some a, e1, k1⟩] X.env)).any (·.1.isNone) = false := by rfl) :
    PE X (.Call (.Name x p) [] [⟨some a, e1, k1⟩] pos) (tCall1 sp t1) := by
  obtain ⟨f, fd, hm, hk, F, _, hb1, _⟩ := F.ex
  have hkw : PK X [⟨some a, e1, k1⟩] (tCons t1 tNil) := pk_cons h1 pk_nil
  refine ⟨fun pins s σ H Q I h => ?_⟩
  refine wpAny_Call_Name_kw (ld_glob I hg hm ?_ hdb)
  refine PySem.W.callWith_KW0 (h₀ := X.base) I.ok.mod.kin hk hall (thn (hkw.run pos pins s σ H _ I h) fun ws s2 ⟨zs, H2, I2, rz, v1, ez, q2⟩ => ⟨I2.kIn, ?_⟩) hpl
  rw [hks]
  subst ez
  obtain ⟨w1, rfl, r1⟩ := vals1 rz
  refine wpAny_call (codeAny_mono (F.run X.A X.stack s2 H2 ⟨[], [a].zip [w1]⟩ [w1] [v1] Q E0 hr I2.env0 (hb1 rfl s2 w1) (.cons r1 .nil) q2) fun r s' hq => ?_)
  cases r with
  | error e => exact pass0 pins σ H2 s2 e s' I2 hq
  | ok fl =>
    cases fl with
    | ret u => exact I2.after hq
    | next => exact False.elim hq
    | brk => exact False.elim hq
    | cont => exact False.elim hq
end

/-! ### text * int -/
def reps (x : Str) (n : Nat) : Str := ⟨((List.replicate n x.cps.toList).flatten).toArray⟩
theorem reps_toList (x : Str) (n : Nat) : (reps x n).cps.toList = (List.replicate n x.cps.toList).flatten := rfl
theorem reps_len (x : Str) (n : Nat) : (reps x n).length = n * x.length := by
  show ((List.replicate n x.cps.toList).flatten).toArray.size = n * x.cps.size
  simp
theorem str_ext {x y : Str} (h : x.cps.toList = y.cps.toList) : x = y := by
  cases x; cases y
  simp only [Str.mk.injEq]
  exact Array.toList_inj.mp h
theorem foldl_reps (x : Array Nat) : ∀ (n : Nat) (acc : Array Nat), ((List.replicate n x).foldl (· ++ ·) acc).toList = acc.toList ++ (List.replicate n x.toList).flatten
  | 0, acc => by simp
  | n + 1, acc => by
    rw [List.replicate_succ, List.foldl_cons, foldl_reps x n (acc ++ x), List.replicate_succ, List.flatten_cons]
    simp
def rMulS : R2 := fun x y H Q => ∃ (z : Str) (n : Nat), x = .str z ∧ y = .int (n : Int) ∧ n ≤ 1000 ∧ z.length ≤ 1000 ∧ Q (.str (reps z n)) H
theorem op_mulS {X : Cx} : OpR X (binaryOp .Mult) rMulS := by
  intro pins s σ H x y v u Q I rx ry h
  obtain ⟨z, n, rfl, rfl, hn, hz, q⟩ := h
  obtain ⟨t, rfl⟩ := rx
  obtain ⟨t', rfl⟩ := ry
  have fin : ∀ (w : Str) (tk : Tok) (k : Nat), w = reps z n → EP X pins σ Q (.str w tk) { s with toks := k } := fun w tk k e => ⟨.str (reps z n), H, I.tok _, ⟨tk, by rw [e]⟩, q⟩
  refine PySem.P.mul_str ?_ (fun h1 h2 => ?_) (fun h1 h2 => ?_) ?_
  · rw [decide_eq_false (by omega), decide_eq_false (by omega)]; rfl
  · have : (1000 : Int) ≤ (2 ^ 63 - 1) / (n : Int) := by
      have h3 : (0 : Int) < n := by omega
      refine (Int.le_ediv_iff_mul_le h3).mpr ?_
      omega
    omega
  · unfold PySem.Builtin.Str.tooLong sizeLine
    have : z.length * (n : Int).toNat ≤ 1000 * 1000 := Nat.mul_le_mul hz (by omega)
    exact decide_eq_false (by omega)
  · by_cases h1 : (n : Int) < 1
    · rw [if_pos h1]
      have e : n = 0 := by omega
      subst e
      exact ⟨by decide, fin _ _ _ (str_ext (by rw [reps_toList]; rfl))⟩
    · rw [if_neg h1]
      by_cases h2 : (((n : Int) == 1 || z.length == 0) = true)
      · rw [if_pos h2]
        refine ⟨.str (reps z n), H, I, ⟨t, ?_⟩, q⟩
        congr 1
        refine str_ext ?_
        rw [reps_toList]
        simp only [Bool.or_eq_true, beq_iff_eq] at h2
        rcases h2 with h2 | h2
        · have e : n = 1 := by omega
          subst e
          simp
        · have e : z.cps.toList = [] := by
            have h3 : z.cps.size = 0 := h2
            simpa using h3
          rw [e]
          simp
      · rw [if_neg h2]
        have e : (⟨(List.replicate (n : Int).toNat z.cps).foldl (· ++ ·) #[]⟩ : Str) = reps z n := str_ext (by
          rw [reps_toList]
          have := foldl_reps z.cps n #[]
          simpa using this)
        refine ⟨?_, fin _ _ _ e⟩
        rw [e]
        have h3 := reps_len z n
        have h4 : n * z.length ≤ 1000 * 1000 := Nat.mul_le_mul hn hz
        rw [sizeLine_eq]
        omega

/-! ### text.replace(A, B), A and B names of the module that hold two texts -/
def tRepG (to : TE) (y z : Str) : TE := fun σ H Q => to σ H fun v H1 => ∃ x, v = .str x ∧ x.length + (x.length + 1) * z.length ≤ 16777216 ∧ Q (.str (Txt.replace x y z)) H1
theorem pe_repG {X : Cx} {o : Expr} {to : TE} {a b y z : Str} {u v : Tok} {pa pb apos pos : Pos} (ho : PE X o to) (ma : X.mg a = some (.str y u)) (mb : X.mg b = some (.str z v)) (hu : u ≠ 0) (hv : v ≠ 0) (huv : u ≠ v) (hyz : (y == z) = false)
    (ga : Gl X a := by rfl) (gb : Gl X b := by rfl) (da : (a == ("__debug__" : Str)) = false := by decide) (db : (b == ("__debug__" : Str)) = false := by decide)
    (hst : starEach [.Name a pa, .Name b pb] X.env = [(false, eval (.Name a pa) X.env), (false, eval (.Name b pb) X.env)] := by rfl)
    (hbase : attributeBase o "replace" X.env (eval o X.env) = eval o X.env := by rfl) (hline : (apos.endLine == pos.line) = true := by rfl) :
    PE X (.Call (.Attribute o "replace" apos) [.Name a pa, .Name b pb] [] pos) (tRepG to y z) := by
  refine ⟨fun pins s σ H Q I h => ?_⟩
  refine PySem.Call_method2 hbase hst hline (thn (ho.run pins s σ H _ I h) fun v' s1 q => ?_)
  obtain ⟨v', H1, I1, r1, x, e1, hb, q⟩ := q
  subst e1
  obtain ⟨tx, e2⟩ := r1
  subst e2
  refine ⟨"str", _, PySem.F.plainAttrs_str, PySem.F.slot_str_replace, PySem.F.type_str_replace, typeIs_str _ _ _, (fun _ e => nomatch e), Calls.callWith_builtin rfl (Calls.evalArgs_plain (Calls.spliced_cons ?_))⟩
  refine ld_glob I1 ga ma (Calls.spliced_cons (ld_glob I1 gb mb (Calls.spliced_nil ?_) db)) da
  exact PySem.SC.replace hu hv huv hyz hb fun t' k => ⟨.str (Txt.replace x y z), H1, I1.tok k, ⟨t', rfl⟩, q⟩
theorem replL_one (a b : Nat) : ∀ l : List Nat, StrLaws.replL [a] [b] l = l.map fun c => if c = a then b else c
  | [] => StrLaws.replL_nil
  | c :: r => by
    by_cases h : c = a
    · subst h
      rw [StrLaws.replL_hit (by simp) (by simp)]
      show [b] ++ StrLaws.replL [c] [b] r = _
      rw [replL_one c b r]
      simp
    · rw [StrLaws.replL_miss (by simpa using h), replL_one a b r]
      simp [h]

/-! ### texts.count(text) -/
def rCntS (K : PySem.W.Frag) : V → List V → Hp → VK → Prop := fun x xs H Q => ∃ (p : Addr) (ys : List Str) (z : Str), x = .ref p ∧ xs = [.str z] ∧ SqL K H p (ys.map V.str) ∧ Q (.int (ys.count z : Nat)) H
def eqs (z : Str) : Value → Bool
  | .str y _ => y == z
  | _ => false
theorem eqs_count (z : Str) : ∀ {ys : List Str} {its : List Value}, Vals (ys.map V.str) its → its.countP (eqs z) = ys.count z
  | [], _, .nil => rfl
  | y :: ys, _, .cons q t => by
    obtain ⟨tk, rfl⟩ := q
    rw [List.countP_cons, List.count_cons, eqs_count z t]
    rfl
theorem eqs_at (z : Str) (t : Tok) (A : Around) (s : Shared) : ∀ {ys : List Str} {its : List Value}, Vals (ys.map V.str) its → ∀ y ∈ its, SeqAt.EqAt A s y (.str z t) (eqs z y)
  | [], _, .nil, _, h => nomatch h
  | x :: ys, _, .cons q r, y, h => by
    rcases List.mem_cons.mp h with e | h
    · subst e
      obtain ⟨tk, rfl⟩ := q
      exact SeqAt.EqAt.str_str x tk z t
    · exact eqs_at z t A s r y h
theorem mt_scount {X : Cx} : MtR X "list.count" (rCntS X.K) := by
  intro pins s σ H x xs v us Q I rx rxs h
  obtain ⟨p, ys, z, rfl, rfl, hs, q⟩ := h
  cases rx
  obtain ⟨u, rfl, ru⟩ := rxs.one
  obtain ⟨t, rfl⟩ := ru
  obtain ⟨its, rv, ⟨⟨cls, dd, data, sl⟩, n, ho, hc, hdn, hd⟩, hlen⟩ := I.list hs
  simp only at hc hd
  subst hc hd
  refine call_meets PySem.F.slot_list_count ⟨_, ho, rfl⟩ PySem.F.entry_list_count (PySem.F.args_list_count_2 _ _)
    (SeqAt.list_countAt p its.toArray n dd sl (.str z t) (eqs z)) ⟨ho, fun y hy => eqs_at z t _ _ rv y (by simpa using hy), ?_⟩
  have ec : its.toArray.toList.countP (eqs z) = ys.count z := eqs_count z rv
  refine ⟨.int (ys.count z : Nat), H, I.tok _, ⟨s.toks, ?_⟩, q⟩
  show Value.int ((its.toArray.toList.countP (eqs z) : Nat) : Int) s.toks = Value.int ((ys.count z : Nat) : Int) s.toks
  rw [ec]
end Mi

set_option maxHeartbeats 2000000
namespace Mi
open PySem PySem.Spec PyProof.Rows L2 Evl

/-! ### what a value is: a flat one, a list that is read, a tracked list, a tuple -/
structure MP where
  p : Hp → V → Prop
  m : ∀ {H H' : Hp} {x : V}, Ex H H' → p H x → p H' x
inductive Dd where
  | D
  | P (q : MP)
  | v (x : V)
  | l (xs : List V)
  | n (xs : List V)
  | u (xs : List V)
  | L (ds : List Dd)
  | N (ds : List Dd)
  | U (ds : List Dd)
mutual
def Is (K : PySem.W.Frag) (H : Hp) : Dd → V → Prop
  | .D, y => ∃ p kvs, y = .ref p ∧ H p = some (.dK kvs)
  | .P q, y => q.p H y
  | .v x, y => y = x
  | .l xs, y => ∃ p, y = .ref p ∧ SqL K H p xs
  | .n xs, y => ∃ p, y = .ref p ∧ H p = some (.lst xs)
  | .u xs, y => ∃ p, y = .ref p ∧ SqT K H p xs
  | .L ds, y => ∃ p vs, y = .ref p ∧ SqL K H p vs ∧ IsE K H ds vs
  | .N ds, y => ∃ p vs, y = .ref p ∧ H p = some (.lst vs) ∧ IsE K H ds vs
  | .U ds, y => ∃ p vs, y = .ref p ∧ SqT K H p vs ∧ IsE K H ds vs
def IsE (K : PySem.W.Frag) (H : Hp) : List Dd → List V → Prop
  | [], vs => vs = []
  | d :: ds, vs => ∃ x r, vs = x :: r ∧ Is K H d x ∧ IsE K H ds r
end
abbrev Dd.i (i : Int) : Dd := .v (.int i)
abbrev Dd.s (x : Str) : Dd := .v (.str x)
abbrev Dd.b (b : Bool) : Dd := .v (.bl b)
abbrev vis (ns : List Int) : List V := ns.map V.int
abbrev vss (ys : List Str) : List V := ys.map V.str
section
variable {K : PySem.W.Frag} {H H' : Hp} {d : Dd} {x y : V}
mutual
theorem Is.mono (e : Ex H H') : ∀ {d : Dd} {x : V}, Is K H d x → Is K H' d x
  | .D, _, h => by obtain ⟨p, kvs, e1, q⟩ := h; exact ⟨p, kvs, e1, e p _ q⟩
  | .P q, _, h => q.m e h
  | .v _, _, h => h
  | .l _, _, h => by obtain ⟨p, e1, q⟩ := h; exact ⟨p, e1, ex_l e q⟩
  | .n _, _, h => by obtain ⟨p, e1, q⟩ := h; exact ⟨p, e1, e p _ q⟩
  | .u _, _, h => by obtain ⟨p, e1, q⟩ := h; exact ⟨p, e1, ex_t e q⟩
  | .L _, _, h => by obtain ⟨p, vs, e1, q, r⟩ := h; exact ⟨p, vs, e1, ex_l e q, IsE.mono e r⟩
  | .N _, _, h => by obtain ⟨p, vs, e1, q, r⟩ := h; exact ⟨p, vs, e1, e p _ q, IsE.mono e r⟩
  | .U _, _, h => by obtain ⟨p, vs, e1, q, r⟩ := h; exact ⟨p, vs, e1, ex_t e q, IsE.mono e r⟩
theorem IsE.mono (e : Ex H H') : ∀ {ds : List Dd} {vs : List V}, IsE K H ds vs → IsE K H' ds vs
  | [], _, h => h
  | _ :: _, _, h => by obtain ⟨x, r, e1, a, b⟩ := h; exact ⟨x, r, e1, Is.mono e a, IsE.mono e b⟩
end
theorem Is.n2l {xs : List V} (h : Is K H (.n xs) x) : Is K H (.l xs) x := by
  obtain ⟨p, e1, q⟩ := h; exact ⟨p, e1, sq_of q⟩
end
def IsAll (K : PySem.W.Frag) (H : Hp) (ds : List Dd) (vs : List V) : Prop := Paired (fun d v => Is K H d v) ds vs

/-! ### what evaluates to what -/
def Er (K : PySem.W.Frag) (te : TE) (σ : L2.St) (H : Hp) (d : Dd) : Prop := ∀ H1, Ex H H1 → ∀ Q : VK, (∀ v H2, Ex H1 H2 → Is K H2 d v → Q v H2) → te σ H1 Q
def Era (K : PySem.W.Frag) (ta : TA) (σ : L2.St) (H : Hp) (ds : List Dd) : Prop := ∀ H1, Ex H H1 → ∀ Q : List V → Hp → Prop, (∀ vs H2, Ex H1 H2 → IsAll K H2 ds vs → Q vs H2) → ta σ H1 Q
def Ro (K : PySem.W.Frag) (r : R2) (d1 d2 d : Dd) : Prop := ∀ x y H1, Is K H1 d1 x → Is K H1 d2 y → ∀ Q : VK, (∀ v H2, Ex H1 H2 → Is K H2 d v → Q v H2) → r x y H1 Q
def Rc (K : PySem.W.Frag) (r : List V → Hp → VK → Prop) (ds : List Dd) (d : Dd) : Prop := ∀ vs H1, IsAll K H1 ds vs → ∀ Q : VK, (∀ v H2, Ex H1 H2 → Is K H2 d v → Q v H2) → r vs H1 Q
section
variable {K : PySem.W.Frag} {σ : L2.St} {H H' : Hp} {te ta tb tc : TE} {t u : TT} {tr : TA} {d d1 d2 d' : Dd} {x y : V} {r : R2}
theorem IsAll.mono (e : Ex H H') : ∀ {ds : List Dd} {vs : List V}, IsAll K H ds vs → IsAll K H' ds vs
  | _, _, .nil => .nil
  | _, _, .cons a b => .cons (a.mono e) (IsAll.mono e b)
theorem Er.mono (e : Ex H H') (h : Er K te σ H d) : Er K te σ H' d := fun H1 a Q q => h H1 (e.trans a) Q q
theorem Er.to (h : Er K te σ H d) (e : d = d') : Er K te σ H d' := e ▸ h
theorem Er.n2l {xs : List V} (h : Er K te σ H (.n xs)) : Er K te σ H (.l xs) := fun H1 a Q q => h H1 a Q fun v H2 e z => q v H2 e z.n2l
theorem er_var {i : Nat} (h : σ[i]? = some (some x)) (hd : Is K H d x) : Er K (tVar i) σ H d := fun H1 e _ q => ⟨x, h, q x H1 (Ex.refl H1) (hd.mono e)⟩
theorem er_v {i : Nat} (h : σ[i]? = some (some x)) : Er K (tVar i) σ H (.v x) := er_var h rfl
theorem er_c : Er K (tC x) σ H (.v x) := fun H1 _ _ q => q x H1 (Ex.refl H1) rfl
theorem er_op (ha : Er K ta σ H d1) (hb : Er K tb σ H d2) (hr : Ro K r d1 d2 d) : Er K (tOp r ta tb) σ H d := fun H1 e Q q =>
  ha H1 e _ fun v1 H2 e2 z1 => hb H2 (e.trans e2) _ fun v2 H3 e3 z2 => hr v1 v2 H3 (z1.mono e3) z2 Q fun v H4 e4 z => q v H4 ((e2.trans e3).trans e4) z
theorem era_nil : Era K tNil σ H [] := fun H1 _ _ q => q [] H1 (Ex.refl H1) .nil
theorem era_cons {ds : List Dd} (h : Er K ta σ H d) (hr : Era K tr σ H ds) : Era K (tCons ta tr) σ H (d :: ds) := fun H1 e _ q =>
  h H1 e _ fun v1 H2 e2 z1 => hr H2 (e.trans e2) _ fun vs H3 e3 z2 => q _ H3 (e2.trans e3) (.cons (z1.mono e3) z2)
theorem er_cb {rc : List V → Hp → VK → Prop} {ds : List Dd} (h : Era K tr σ H ds) (hr : Rc K rc ds d) : Er K (tCB rc tr) σ H d := fun H1 e Q q =>
  h H1 e _ fun vs H2 e2 z => hr vs H2 z Q fun v H3 e3 z3 => q v H3 (e2.trans e3) z3
theorem flat_all {vs : List V} {ws : List V} (h : IsAll K H (vs.map Dd.v) ws) : ws = vs := by
  induction vs generalizing ws with
  | nil => cases h; rfl
  | cons a r ih =>
    cases h with
    | cons h1 h2 =>
      rw [ih h2]
      have e : _ = a := h1
      rw [e]
theorem er_lst {vs : List V} (h : Era K tr σ H (vs.map Dd.v)) (hl : vs.length ≤ 100000) : Er K (tLst tr) σ H (.n vs) := fun H1 e _ q =>
  h H1 e _ fun ws H2 e2 z => by
    have ew := flat_all z
    subst ew
    exact ⟨sz_of hl, fun p hp => q _ _ (e2.trans (Ex.new hp)) ⟨p, rfl, upd_same⟩⟩
theorem er_tup {vs : List V} (h : Era K tr σ H (vs.map Dd.v)) (hl : vs.length ≤ 100000) : Er K (tTup tr) σ H (.u vs) := fun H1 e _ q =>
  h H1 e _ fun ws H2 e2 z => by
    have ew := flat_all z
    subst ew
    exact ⟨sz_of hl, fun p hp => q _ _ (e2.trans (Ex.new hp)) ⟨p, rfl, st_of upd_same⟩⟩

/-! ### operators -/
theorem ro_I0 {g : Int → Int → V} {i j : Int} : Ro K (rI0 g) (.v (.int i)) (.v (.int j)) (.v (g i j)) := by
  rintro _ _ H1 rfl rfl Q q
  exact ⟨i, j, rfl, rfl, q _ H1 (Ex.refl H1) rfl⟩
theorem ro_I {C : Int → Int → Prop} {g : Int → Int → V} {i j : Int} (hc : C i j) : Ro K (rI C g) (.v (.int i)) (.v (.int j)) (.v (g i j)) := by
  rintro _ _ H1 rfl rfl Q q
  exact ⟨i, j, rfl, rfl, hc, q _ H1 (Ex.refl H1) rfl⟩
theorem ro_eq (h : scal x y = true) : Ro K rEq (.v x) (.v y) (.v (.bl (decide (x = y)))) := by
  rintro _ _ H1 rfl rfl Q q
  exact ⟨h, q _ H1 (Ex.refl H1) rfl⟩
theorem ro_ne (h : scal x y = true) : Ro K rNe (.v x) (.v y) (.v (.bl (!decide (x = y)))) := by
  rintro _ _ H1 rfl rfl Q q
  exact ⟨h, q _ H1 (Ex.refl H1) rfl⟩
theorem ro_ixL {xs : List V} {i : Int} (h0 : 0 ≤ i) (h : xs[i.toNat]? = some x) : Ro K (rIxL K) (.l xs) (.v (.int i)) (.v x) := by
  rintro _ _ H1 ⟨p, rfl, hp⟩ rfl Q q
  have e : ((i.toNat : Nat) : Int) = i := Int.toNat_of_nonneg h0
  exact ⟨p, xs, i, x, rfl, rfl, hp, by rw [← e]; exact atI_nat h, q _ H1 (Ex.refl H1) rfl⟩
theorem ro_ixN {xs : List V} {i : Int} (h0 : 0 ≤ i) (h : xs[i.toNat]? = some x) : Ro K (rIxL K) (.n xs) (.v (.int i)) (.v x) := fun v w H1 a b => ro_ixL h0 h v w H1 a.n2l b
theorem ro_ixT {xs : List V} {i : Int} (h0 : 0 ≤ i) (h : xs[i.toNat]? = some x) : Ro K (rIxT K) (.u xs) (.v (.int i)) (.v x) := by
  rintro _ _ H1 ⟨p, rfl, hp⟩ rfl Q q
  have e : ((i.toNat : Nat) : Int) = i := Int.toNat_of_nonneg h0
  exact ⟨p, xs, i, x, rfl, rfl, hp, by rw [← e]; exact atI_nat h, q _ H1 (Ex.refl H1) rfl⟩
theorem ro_ixS {z : Str} {i : Int} {c : Nat} (hz : z.length ≤ 100000) (h0 : 0 ≤ i) (h : z.cps.toList[i.toNat]? = some c) : Ro K rIxS (.v (.str z)) (.v (.int i)) (.v (sgn c)) := by
  rintro _ _ H1 rfl rfl Q q
  have e : ((i.toNat : Nat) : Int) = i := Int.toNat_of_nonneg h0
  exact ⟨z, i, c, rfl, rfl, sz_of hz, by rw [← e]; exact atI_nat h, q _ H1 (Ex.refl H1) rfl⟩
def rAddS2 : R2 := fun x y H Q => ∃ i j, x = .str i ∧ y = .str j ∧ i.length + j.length ≤ sizeLine ∧ Q (.str (i ++ j)) H
theorem op_addS {X : Cx} : OpR X (binaryOp .Add) rAddS2 := op_add_str
theorem ro_addS {a b : Str} (h : a.length + b.length ≤ 100000) : Ro K rAddS2 (.v (.str a)) (.v (.str b)) (.v (.str (a ++ b))) := by
  rintro _ _ H1 rfl rfl Q q
  exact ⟨a, b, rfl, rfl, sz_of h, q _ H1 (Ex.refl H1) rfl⟩
theorem ro_mulS {a : Str} {n : Nat} (hn : n ≤ 1000) (ha : a.length ≤ 1000) : Ro K rMulS (.v (.str a)) (.v (.int (n : Int))) (.v (.str (reps a n))) := by
  rintro _ _ H1 rfl rfl Q q
  exact ⟨a, n, rfl, rfl, hn, ha, q _ H1 (Ex.refl H1) rfl⟩
theorem ro_cat {xs zs : List V} (h : xs.length + zs.length ≤ 100000) : Ro K rCat (.n xs) (.n zs) (.n (xs ++ zs)) := by
  rintro _ _ H1 ⟨p, rfl, hp⟩ ⟨p', rfl, hp'⟩ Q q
  exact ⟨p, p', xs, zs, rfl, rfl, hp, hp', sz_of h, fun l hl => q _ _ (Ex.new hl) ⟨l, rfl, upd_same⟩⟩
theorem ro_rep {xs : List V} {k : Nat} (h : xs.length * k ≤ 100000) (hk : k ≤ 100000) : Ro K rRep (.n xs) (.v (.int (k : Int))) (.n (List.replicate k xs).flatten) := by
  rintro _ _ H1 ⟨p, rfl, hp⟩ rfl Q q
  exact ⟨p, k, xs, rfl, rfl, hp, by omega, by omega, by rw [Int.toNat_natCast]; exact sz_of h, fun l hl => q _ _ (Ex.new hl) ⟨l, rfl, by rw [Int.toNat_natCast]; exact upd_same⟩⟩
theorem ro_inL {neg : Bool} {xs : List V} (hx : flatV x = true) (ha : xs.all flatV = true) : Ro K (rIn K neg) (.v x) (.l xs) (.v (.bl (if neg then !inV x xs else inV x xs))) := by
  rintro _ _ H1 rfl ⟨p, rfl, hp⟩ Q q
  exact ⟨p, xs, rfl, .inl hp, hx, ha, q _ H1 (Ex.refl H1) rfl⟩
theorem ro_inN {neg : Bool} {xs : List V} (hx : flatV x = true) (ha : xs.all flatV = true) : Ro K (rIn K neg) (.v x) (.n xs) (.v (.bl (if neg then !inV x xs else inV x xs))) := fun v w H1 a b => ro_inL hx ha v w H1 a b.n2l
theorem ro_inU {neg : Bool} {xs : List V} (hx : flatV x = true) (ha : xs.all flatV = true) : Ro K (rIn K neg) (.v x) (.u xs) (.v (.bl (if neg then !inV x xs else inV x xs))) := by
  rintro _ _ H1 rfl ⟨p, rfl, hp⟩ Q q
  exact ⟨p, xs, rfl, .inr hp, hx, ha, q _ H1 (Ex.refl H1) rfl⟩
theorem ro_inS {c : Nat} {z : Str} : Ro K rInS (.v (sgn c)) (.v (.str z)) (.v (.bl (decide (c ∈ z.cps.toList)))) := by
  rintro _ _ H1 rfl rfl Q q
  exact ⟨c, z, rfl, rfl, q _ H1 (Ex.refl H1) rfl⟩
theorem ro_niS {c : Nat} {z : Str} : Ro K rNotInS (.v (sgn c)) (.v (.str z)) (.v (.bl (!decide (c ∈ z.cps.toList)))) := by
  rintro _ _ H1 rfl rfl Q q
  exact ⟨c, z, rfl, rfl, q _ H1 (Ex.refl H1) rfl⟩
theorem ro_isN : Ro K rIsN (.v x) (.v .non) (.v (.bl (decide (x = .non)))) := by
  rintro _ _ H1 rfl rfl Q q
  exact ⟨rfl, q _ H1 (Ex.refl H1) rfl⟩
theorem ro_notN : Ro K rNotN (.v x) (.v .non) (.v (.bl (!decide (x = .non)))) := by
  rintro _ _ H1 rfl rfl Q q
  exact ⟨rfl, q _ H1 (Ex.refl H1) rfl⟩
end
end Mi

set_option maxHeartbeats 2000000
namespace Mi
open PySem PySem.Spec PyProof.Rows L2 Evl PySem.W
theorem zipS_at {x y : Str} {i : Nat} {a b : V} (h : (zipS x y)[i]? = some (a, b)) : ∃ c d, x.cps[i]? = some c ∧ y.cps[i]? = some d ∧ a = sgn c ∧ b = sgn d := by
  unfold zipS at h
  rw [List.getElem?_map] at h
  cases e : (x.cps.toList.zip y.cps.toList)[i]? with
  | none => rw [e] at h; cases h
  | some p =>
    rw [e] at h
    obtain ⟨c, d⟩ := p
    have h2 := List.getElem?_zip_eq_some.mp e
    have h3 : (sgn c, sgn d) = (a, b) := Option.some.inj h
    injection h3 with h4 h5
    exact ⟨c, d, by simpa using h2.1, by simpa using h2.2, h4.symm, h5.symm⟩
section
variable {K : PySem.W.Frag} {σ : L2.St} {H H' : Hp} {te ta tb tc : TE} {t u : TT} {tr : TA} {d d1 d2 d' : Dd} {x y : V} {r : R2}

/-! ### lists of whole numbers compared -/
theorem dpAll_ints : ∀ ns : List Int, DpAll K H (vis ns) (ns.map PyData.int)
  | [] => .nil
  | n :: r => .cons (.int n) (dpAll_ints r)
theorem eqv_ints : ∀ ns ms : List Int, PyData.eqvAll (ns.map PyData.int) (ms.map PyData.int) = decide (ns = ms)
  | [], [] => by simp [PyData.eqvAll]
  | [], _ :: _ => by simp [PyData.eqvAll]
  | _ :: _, [] => by simp [PyData.eqvAll]
  | a :: r, b :: t => by
    simp only [List.map_cons, PyData.eqvAll, PyData.eqv, eqv_ints r t]
    by_cases h : a = b <;> by_cases h' : r = t <;> simp [h, h']
theorem shaped_tup (ns : List Int) : SeqAt.shaped (.tuple (ns.map PyData.int)) = true := by
  simp [SeqAt.shaped, PyData.canLay0, PyData.depth, ke_canLayAll0, ke_depthAll]
theorem ro_eqL {ns ms : List Int} : Ro K (rEqD K) (.l (vis ns)) (.l (vis ms)) (.v (.bl (decide (ns = ms)))) := by
  rintro _ _ H1 ⟨p, rfl, hp⟩ ⟨p', rfl, hp'⟩ Q q
  refine ⟨_, _, .lst hp (dpAll_ints ns), .lst hp' (dpAll_ints ms), ke_shaped_ints ns, ke_shaped_ints ms, q _ H1 (Ex.refl H1) ?_⟩
  show V.bl (PyData.eqvAll _ _) = _
  rw [eqv_ints]
theorem ro_neL {ns ms : List Int} : Ro K (rNeD K) (.l (vis ns)) (.l (vis ms)) (.v (.bl (!decide (ns = ms)))) := by
  rintro _ _ H1 ⟨p, rfl, hp⟩ ⟨p', rfl, hp'⟩ Q q
  refine ⟨_, _, .lst hp (dpAll_ints ns), .lst hp' (dpAll_ints ms), ke_shaped_ints ns, ke_shaped_ints ms, q _ H1 (Ex.refl H1) ?_⟩
  show V.bl (!PyData.eqvAll _ _) = _
  rw [eqv_ints]
theorem ro_eqU {ns ms : List Int} : Ro K (rEqD K) (.u (vis ns)) (.u (vis ms)) (.v (.bl (decide (ns = ms)))) := by
  rintro _ _ H1 ⟨p, rfl, hp⟩ ⟨p', rfl, hp'⟩ Q q
  refine ⟨_, _, .tup hp (dpAll_ints ns), .tup hp' (dpAll_ints ms), shaped_tup ns, shaped_tup ms, q _ H1 (Ex.refl H1) ?_⟩
  show V.bl (PyData.eqvAll _ _) = _
  rw [eqv_ints]

/-! ### built-ins -/
def rInt1 : List V → Hp → VK → Prop := fun xs H Q => (∃ i, xs = [.int i] ∧ Q (.int i) H) ∨ ∃ k, xs = [.bl k] ∧ Q (.int (if k then 1 else 0)) H
def rTupS (K : PySem.W.Frag) : List V → Hp → VK → Prop := fun xs H Q => ∃ p ys, xs = [.ref p] ∧ ((SqL K H p ys ∧ ∀ l, H l = none → Q (.ref l) (upd H l (.tup ys))) ∨ (SqT K H p ys ∧ Q (.ref p) H))
def rLenStr : List V → Hp → VK → Prop := fun xs H Q => ∃ z, xs = [.str z] ∧ z.length ≤ sizeLine ∧ Q (.int z.length) H
theorem cr_len {X : Cx} : CallR X (.builtin "len") (rLenS X.K) := call_len_seq
theorem cr_lenStr {X : Cx} : CallR X (.builtin "len") rLenStr := call_len_str
theorem cr_int {X : Cx} : CallR X (.type "int") rInt1 := call_int1
theorem cr_list {X : Cx} : CallR X (.type "list") (rListS X.K) := call_list_of
theorem cr_tuple {X : Cx} : CallR X (.type "tuple") (rTupS X.K) := call_tuple_of
theorem cr_max2 {X : Cx} (hc : X.calm = true := by rfl) : CallR X (.builtin "max") rMax2 := call_max2 hc
theorem cr_isi {X : Cx} : CallR X (.builtin "isinstance") (rIsi X.K) := call_isi
theorem rc_lenL {xs : List V} : Rc K (rLenS K) [.l xs] (.v (.int (xs.length : Int))) := by
  rintro _ H1 (_ | ⟨⟨p, rfl, hp⟩, _ | _⟩) Q q
  exact ⟨p, xs, rfl, .inl hp, q _ H1 (Ex.refl H1) rfl⟩
theorem rc_lenN {xs : List V} : Rc K (rLenS K) [.n xs] (.v (.int (xs.length : Int))) := by
  rintro _ H1 (_ | ⟨⟨p, rfl, hp⟩, _ | _⟩) Q q
  exact ⟨p, xs, rfl, .inl (sq_of hp), q _ H1 (Ex.refl H1) rfl⟩
theorem rc_lenU {xs : List V} : Rc K (rLenS K) [.u xs] (.v (.int (xs.length : Int))) := by
  rintro _ H1 (_ | ⟨⟨p, rfl, hp⟩, _ | _⟩) Q q
  exact ⟨p, xs, rfl, .inr hp, q _ H1 (Ex.refl H1) rfl⟩
theorem rc_lenS {z : Str} (hz : z.length ≤ 100000) : Rc K rLenStr [.v (.str z)] (.v (.int (z.length : Int))) := by
  rintro _ H1 (_ | ⟨rfl, _ | _⟩) Q q
  exact ⟨z, rfl, sz_of hz, q _ H1 (Ex.refl H1) rfl⟩
theorem rc_int {i : Int} : Rc K rInt1 [.v (.int i)] (.v (.int i)) := by
  rintro _ H1 (_ | ⟨rfl, _ | _⟩) Q q
  exact .inl ⟨i, rfl, q _ H1 (Ex.refl H1) rfl⟩
theorem rc_intB {b : Bool} : Rc K rInt1 [.v (.bl b)] (.v (.int (if b then 1 else 0))) := by
  rintro _ H1 (_ | ⟨rfl, _ | _⟩) Q q
  exact .inr ⟨b, rfl, q _ H1 (Ex.refl H1) rfl⟩
theorem rc_max2 {i j : Int} : Rc K rMax2 [.v (.int i), .v (.int j)] (.v (.int (if j > i then j else i))) := by
  rintro _ H1 (_ | ⟨rfl, _ | ⟨rfl, _ | _⟩⟩) Q q
  exact ⟨i, j, rfl, q _ H1 (Ex.refl H1) rfl⟩
theorem rc_listL {xs : List V} : Rc K (rListS K) [.l xs] (.n xs) := by
  rintro _ H1 (_ | ⟨⟨p, rfl, hp⟩, _ | _⟩) Q q
  exact ⟨p, xs, rfl, .inl hp, fun l hl => q _ _ (Ex.new hl) ⟨l, rfl, upd_same⟩⟩
theorem rc_listU {xs : List V} : Rc K (rListS K) [.u xs] (.n xs) := by
  rintro _ H1 (_ | ⟨⟨p, rfl, hp⟩, _ | _⟩) Q q
  exact ⟨p, xs, rfl, .inr hp, fun l hl => q _ _ (Ex.new hl) ⟨l, rfl, upd_same⟩⟩
theorem rc_tupL {xs : List V} : Rc K (rTupS K) [.l xs] (.u xs) := by
  rintro _ H1 (_ | ⟨⟨p, rfl, hp⟩, _ | _⟩) Q q
  exact ⟨p, xs, rfl, .inl ⟨hp, fun l hl => q _ _ (Ex.new hl) ⟨l, rfl, st_of upd_same⟩⟩⟩
theorem rc_tupN {xs : List V} : Rc K (rTupS K) [.n xs] (.u xs) := fun vs H1 h Q q => by
  cases h with
  | cons a b => exact rc_tupL _ H1 (.cons a.n2l b) Q q
/-- isinstance(x, T) -/
theorem rc_isi {n : String} {b : Bool} (t : Value) (ht : ∀ H1 v, Is K H1 d v → TyX K H1 v t) (hk : PySem.W.kitOne K t (.type n) = some b) : Rc K (rIsi K) [d, .v (.ty n)] (.v (.bl b)) := by
  rintro _ H1 (_ | ⟨hd, _ | ⟨rfl, _ | _⟩⟩) Q q
  exact ⟨_, _, t, .type n, b, rfl, .ty n, ht _ _ hd, hk, q _ H1 (Ex.refl H1) rfl⟩
theorem ty_u {xs : List V} {H1 : Hp} {v : V} (h : Is K H1 (.u xs) v) : TyX K H1 v (.type "tuple") := by
  obtain ⟨p, rfl, hp⟩ := h
  rcases hp with (hp | ⟨o, hp⟩) | ⟨o, its, n, h1, h2, _⟩
  · exact .base (.tup hp)
  · exact .fTuple hp
  · exact .kTuple h1 h2
theorem ty_l {xs : List V} {H1 : Hp} {v : V} (h : Is K H1 (.l xs) v) : TyX K H1 v (.type "list") := by
  obtain ⟨p, rfl, hp⟩ := h
  rcases hp with (hp | ⟨o, hp⟩) | ⟨o, its, n, h1, h2, _⟩
  · exact .base (.lst hp)
  · exact .base (.frz hp)
  · exact .kList h1 h2
theorem rc_isi_int {n : String} {i : Int} {b : Bool} (h : kitB "int" n = some b) : Rc K (rIsi K) [.v (.int i), .v (.ty n)] (.v (.bl b)) := rc_isi (.type "int") (fun _ _ e => by rw [show _ = V.int i from e]; exact .base (.int i)) (kit_ty h)
theorem rc_isi_str {n : String} {i : Str} {b : Bool} (h : kitB "str" n = some b) : Rc K (rIsi K) [.v (.str i), .v (.ty n)] (.v (.bl b)) := rc_isi (.type "str") (fun _ _ e => by rw [show _ = V.str i from e]; exact .base (.str i)) (kit_ty h)
theorem rc_isi_bl {n : String} {i : Bool} {b : Bool} (h : kitB "bool" n = some b) : Rc K (rIsi K) [.v (.bl i), .v (.ty n)] (.v (.bl b)) := rc_isi (.type "bool") (fun _ _ e => by rw [show _ = V.bl i from e]; exact .base (.bl i)) (kit_ty h)
theorem rc_isi_non {n : String} {b : Bool} (h : kitB "NoneType" n = some b) : Rc K (rIsi K) [.v .non, .v (.ty n)] (.v (.bl b)) := rc_isi (.type "NoneType") (fun _ _ e => by rw [show _ = V.non from e]; exact .base .non) (kit_ty h)
theorem rc_isi_u {n : String} {xs : List V} {b : Bool} (h : kitB "tuple" n = some b) : Rc K (rIsi K) [.u xs, .v (.ty n)] (.v (.bl b)) := rc_isi (.type "tuple") (fun _ _ e => ty_u e) (kit_ty h)
theorem rc_isi_l {n : String} {xs : List V} {b : Bool} (h : kitB "list" n = some b) : Rc K (rIsi K) [.l xs, .v (.ty n)] (.v (.bl b)) := rc_isi (.type "list") (fun _ _ e => ty_l e) (kit_ty h)

/-! ### methods -/
def Rm (K : PySem.W.Frag) (T : String) (r : V → List V → Hp → VK → Prop) (d0 : Dd) (ds : List Dd) (d : Dd) : Prop :=
  (∀ x H1, Is K H1 d0 x → tyV K T x H1) ∧ ∀ x vs H1, Is K H1 d0 x → IsAll K H1 ds vs → ∀ Q : VK, (∀ v H2, Ex H1 H2 → Is K H2 d v → Q v H2) → r x vs H1 Q
theorem er_bm {T : String} {rm : V → List V → Hp → VK → Prop} {ds : List Dd} {d0 : Dd} {to : TE} (ho : Er K to σ H d0) (h : Era K tr σ H ds) (hr : Rm K T rm d0 ds d) : Er K (tBM K T rm to tr) σ H d := fun H1 e Q q =>
  ho H1 e _ fun x H2 e2 z => ⟨hr.1 x H2 z, h H2 (e.trans e2) _ fun vs H3 e3 z3 => hr.2 x vs H3 (z.mono e3) z3 Q fun v H4 e4 z4 => q v H4 ((e2.trans e3).trans e4) z4⟩
def rJoin (K : PySem.W.Frag) : V → List V → Hp → VK → Prop := fun x xs H Q => ∃ a p, ∃ ys : List Str, x = .str a ∧ xs = [.ref p] ∧ (SqL K H p (ys.map V.str) ∨ SqT K H p (ys.map V.str)) ∧ (ys.map (·.length)).sum + ys.length * a.length ≤ 16777216 ∧ Q (.str (Txt.join a ys)) H
theorem mt_joinN {X : Cx} : MtR X "str.join" (rJoin X.K) := mt_join
def rSIndex : V → List V → Hp → VK → Prop := fun x xs H Q => ∃ a b i rest, x = .str a ∧ xs = [.str b] ∧ Builtin.Str.occurrences a b 0 a.length 1 = i :: rest ∧ Q (.int (i : Nat)) H
theorem mt_sindexN {X : Cx} : MtR X "str.index" rSIndex := mt_sindex
theorem rm_join {a : Str} {ys : List Str} (hz : (ys.map (·.length)).sum + ys.length * a.length ≤ 100000) : Rm K "str" (rJoin K) (.v (.str a)) [.n (vss ys)] (.v (.str (Txt.join a ys))) := by
  refine ⟨fun x H1 e => ?_, ?_⟩
  · rw [show x = V.str a from e]; exact rfl
  · rintro _ _ H1 rfl (_ | ⟨⟨p, rfl, hp⟩, _ | _⟩) Q q
    exact ⟨a, p, ys, rfl, rfl, .inl (sq_of hp), by omega, q _ H1 (Ex.refl H1) rfl⟩
theorem rm_sindex {a b : Str} {i : Nat} {rest : List Nat} (h : Builtin.Str.occurrences a b 0 a.length 1 = i :: rest) : Rm K "str" rSIndex (.v (.str a)) [.v (.str b)] (.v (.int (i : Int))) := by
  refine ⟨fun x H1 e => ?_, ?_⟩
  · rw [show x = V.str a from e]; exact rfl
  · rintro _ _ H1 rfl (_ | ⟨rfl, _ | _⟩) Q q
    exact ⟨a, b, i, rest, rfl, rfl, h, q _ H1 (Ex.refl H1) rfl⟩
theorem rm_count {ys : List Str} {z : Str} : Rm K "list" (rCntS K) (.l (vss ys)) [.v (.str z)] (.v (.int (ys.count z : Nat))) := by
  refine ⟨fun x H1 e => ?_, ?_⟩
  · obtain ⟨p, rfl, hp⟩ := e
    exact .inl ⟨rfl, _, hp⟩
  · rintro _ _ H1 ⟨p, rfl, hp⟩ (_ | ⟨rfl, _ | _⟩) Q q
    exact ⟨p, ys, z, rfl, rfl, hp, q _ H1 (Ex.refl H1) rfl⟩
theorem er_repG {a y z : Str} (h : Er K te σ H (.v (.str a))) (hz : a.length ≤ 1000) (hz2 : z.length ≤ 1000) : Er K (tRepG te y z) σ H (.v (.str (Txt.replace a y z))) := fun H1 e Q q =>
  h H1 e _ fun v H2 e2 z2 => ⟨a, z2, by
    have : (a.length + 1) * z.length ≤ 1001 * 1000 := Nat.mul_le_mul (by omega) hz2
    omega, q _ H2 e2 rfl⟩

/-! ### slices -/
def Eo (to : TO) (σ : L2.St) (H : Hp) (o : Option Int) : Prop := EvO to σ H o
theorem eo_non : EvO tNoPart σ H none := eo_none
theorem eo_of {i : Int} (h : Er K te σ H (.v (.int i))) : EvO (tPart te) σ H (some i) := fun H1 e _ q => h H1 e _ fun v H2 e2 z => ⟨i, z, q H2 e2⟩
theorem er_slL {tl th : TO} {xs : List V} {lo hi : Option Int} (h : Er K te σ H (.l xs)) (h1 : EvO tl σ H lo) (h2 : EvO th σ H hi) : Er K (tSl (rSlL K) te tl th) σ H (.n (cutV xs lo hi)) := fun H1 e _ q =>
  h H1 e _ fun v H2 e2 ⟨p, ep, hp⟩ => h1 H2 (e.trans e2) _ fun H3 e3 => h2 H3 ((e.trans e2).trans e3) _ fun H4 e4 => by
    subst ep
    exact ⟨p, xs, rfl, ex_l (e3.trans e4) hp, fun l hl => q _ _ (((e2.trans e3).trans e4).trans (Ex.new hl)) ⟨l, rfl, upd_same⟩⟩
theorem er_slS {tl th : TO} {z : Str} {lo hi : Option Int} (h : Er K te σ H (.v (.str z))) (hz : z.length ≤ 100000) (h1 : EvO tl σ H lo) (h2 : EvO th σ H hi) : Er K (tSl rSlS te tl th) σ H (.v (.str (cutS z lo hi))) := fun H1 e _ q =>
  h H1 e _ fun v H2 e2 ev => h1 H2 (e.trans e2) _ fun H3 e3 => h2 H3 ((e.trans e2).trans e3) _ fun H4 e4 => ⟨z, ev, sz_of hz, q _ H4 ((e2.trans e3).trans e4) rfl⟩

/-! ### tests, choices -/
theorem et_t {b : Bool} (h : Er K te σ H (.v (.bl b))) : EvT (tTest te) σ H b := fun H1 e _ q => h H1 e _ fun v H2 e2 z => ⟨b, z, q H2 e2⟩
theorem et_v {b : Bool} (h : Er K te σ H (.v (.bl b))) : EvT (tB te) σ H b := fun H1 e _ q => h H1 e _ fun v H2 e2 z => ⟨b, z, q H2 e2⟩
theorem er_if {b : Bool} (h : EvT t σ H b) (h1 : b = true → Er K ta σ H d) (h2 : b = false → Er K tb σ H d) : Er K (tIf t ta tb) σ H d := fun H1 e Q q => h H1 e _ fun H2 e2 => by
  cases b with
  | true =>
    show ta σ H2 Q
    exact h1 rfl H2 (e.trans e2) Q fun v H3 e3 z => q v H3 (e2.trans e3) z
  | false =>
    show tb σ H2 Q
    exact h2 rfl H2 (e.trans e2) Q fun v H3 e3 z => q v H3 (e2.trans e3) z
theorem er_andV {a b : Bool} (h1 : Er K ta σ H (.v (.bl a))) (h2 : a = true → Er K tb σ H (.v (.bl b))) : Er K (tAndV ta tb) σ H (.v (.bl (a && b))) := fun H1 e Q q => h1 H1 e _ fun v H2 e2 z => ⟨a, z, by
  cases a with
  | true =>
    show tb σ H2 Q
    exact h2 rfl H2 (e.trans e2) Q fun v H3 e3 z => q v H3 (e2.trans e3) z
  | false =>
    show Q (.bl false) H2
    exact q _ H2 e2 rfl⟩
theorem er_orV {a b : Bool} (h1 : Er K ta σ H (.v (.bl a))) (h2 : a = false → Er K tb σ H (.v (.bl b))) : Er K (tOrV ta tb) σ H (.v (.bl (a || b))) := fun H1 e Q q => h1 H1 e _ fun v H2 e2 z => ⟨a, z, by
  cases a with
  | true =>
    show Q (.bl true) H2
    exact q _ H2 e2 rfl
  | false =>
    show tb σ H2 Q
    exact h2 rfl H2 (e.trans e2) Q fun v H3 e3 z => q v H3 (e2.trans e3) z⟩
theorem er_notV {a : Bool} (h1 : Er K ta σ H (.v (.bl a))) : Er K (tNotV ta) σ H (.v (.bl (!a))) := fun H1 e Q q => h1 H1 e _ fun v H2 e2 z => ⟨a, z, q _ H2 e2 rfl⟩

/-! ### calls of the text's own defs -/
def spR (K : PySem.W.Frag) {A : Type} (pre : A → Prop) (args : A → List Dd) (ret : A → Dd) : Sp := fun vs H Q _ => ∃ a : A, pre a ∧ IsAll K H (args a) vs ∧ ∀ v H', Ex H H' → Is K H' (ret a) v → Q v H'
theorem er_call {A : Type} {pre : A → Prop} {args : A → List Dd} {ret : A → Dd} {E : XK} {ds : List Dd} (a : A) (h : Era K tr σ H ds) (hd : ds = args a) (hp : pre a) : Er K (tCall (spR K pre args ret) [] E tr) σ H (ret a) := fun H1 e Q q =>
  h H1 e _ fun vs H2 e2 z => by
    rw [List.append_nil]
    exact ⟨a, hp, hd ▸ z, fun v H' e3 z3 => q v H' (e2.trans e3) z3⟩
theorem er_call2 {A : Type} {pre : A → Prop} {args : A → List Dd} {ret : A → Dd} (a : A) (h1 : Er K ta σ H d1) (h2 : Er K tb σ H d2) (hd : [d2, d1] = args a) (hp : pre a) : Er K (tCall2 (spR K pre args ret) ta tb) σ H (ret a) := fun H1 e Q q =>
  h1 H1 e _ fun v1 H2 e2 z1 => h2 H2 (e.trans e2) _ fun v2 H3 e3 z2 => ⟨v1, v2, rfl, a, hp, hd ▸ .cons z2 (.cons (z1.mono e3) .nil), fun v H' e4 z => q v H' ((e2.trans e3).trans e4) z⟩
theorem er_call1 {A : Type} {pre : A → Prop} {args : A → List Dd} {ret : A → Dd} (a : A) (h1 : Er K ta σ H d1) (hd : [d1] = args a) (hp : pre a) : Er K (tCall1 (spR K pre args ret) ta) σ H (ret a) := fun H1 e Q q =>
  h1 H1 e _ fun v1 H2 e2 z1 => ⟨v1, rfl, a, hp, hd ▸ .cons z1 .nil, fun v H' e4 z => q v H' (e2.trans e4) z⟩

/-! ### statements -/
variable {D : Ends} {tu tw tz : TS} {g : TG}
theorem a_asg {i : Nat} (h : Er K te σ H d) (k : ∀ v H1, Ex H H1 → Is K H1 d v → tz D (σ.set i (some v)) H1) : tSeq (tAsg te (gName i)) tz D σ H := h H (Ex.refl H) _ fun v H1 e z => k v H1 e z
theorem a_asg1 {i : Nat} (h : Er K te σ H d) (k : ∀ v H1, Ex H H1 → Is K H1 d v → D.nx (σ.set i (some v)) H1) : tAsg te (gName i) D σ H := h H (Ex.refl H) _ fun v H1 e z => k v H1 e z
theorem a_ret (h : Er K te σ H d) (k : ∀ v H1, Ex H H1 → Is K H1 d v → D.rt v H1) : tRet te D σ H := h H (Ex.refl H) _ k
/-- a new list that will grow -/
theorem a_new {i : Nat} (k : ∀ p H1, H p = none → Ex H H1 → H1 p = some (.lst []) → tz D (σ.set i (some (.ref p))) H1) : tSeq (tAsg (tLst tNil) (gName i)) tz D σ H :=
  ⟨Nat.zero_le _, fun p hp => k p _ hp (Ex.new hp) upd_same⟩
theorem a_app {l : Addr} {xs : List V} (hl : H l = some (.lst xs)) (ha : Er K ta σ H (.v (.ref l))) (h : Er K te σ H (.v x)) (hz : xs.length < 100000) (k : ∀ H1, Ex H H1 → D.nx σ (upd H1 l (.lst (xs ++ [x])))) :
    tDrop (tBM K "list" rAppend ta (tCons te tNil)) D σ H := ha H (Ex.refl H) _ fun v H1 e1 z1 => by
  have ez : v = .ref l := z1
  subst ez
  exact ⟨Or.inl ⟨rfl, xs, sq_of (e1 l _ hl)⟩, h H1 e1 _ fun v H2 e2 z2 => by
    have e3 : v = x := z2
    subst e3
    exact ⟨l, xs, v, rfl, rfl, e2 l _ (e1 l _ hl), sz_lt hz, k H2 (e1.trans e2)⟩⟩
theorem b_app {l : Addr} {xs : List V} (hl : H l = some (.lst xs)) (ha : Er K ta σ H (.v (.ref l))) (h : Er K te σ H (.v x)) (hz : xs.length < 100000) (k : ∀ H1, Ex H H1 → tz D σ (upd H1 l (.lst (xs ++ [x])))) :
    tSeq (tDrop (tBM K "list" rAppend ta (tCons te tNil))) tz D σ H := a_app (D := { D with nx := tz D }) hl ha h hz k
theorem a_forR1 {ta : TA} {j : Nat} {n : Nat} (h : Era K ta σ H [.v (.int (n : Int))]) (hn : n ≤ 100000) (Pv : Nat → L2.St → Hp → Prop) (h0 : ∀ H1, Ex H H1 → Pv 0 σ H1)
    (hs : ∀ (i : Nat) σ' H', i < n → Pv i σ' H' → tu { D with nx := Pv (i + 1), ct := Pv (i + 1), bk := D.nx } (σ'.set j (some (.int (i : Int)))) H') (hd : ∀ σ' H', Pv n σ' H' → D.nx σ' H') : tFor (iRng1 ta) (gName j) tu D σ H :=
  h H (Ex.refl H) _ fun vs H1 e z => by
    rcases z with _ | ⟨rfl, _ | _⟩
    exact ⟨(n : Int), rfl, by omega, by omega, for_range (lo := 0) (n := (n : Int).toNat) Pv (h0 H1 e) (fun i σ' H' hi p => by
      have e0 : (0 : Int) + (i : Int) = (i : Int) := Int.zero_add _
      show tu { D with nx := Pv (i + 1), ct := Pv (i + 1), bk := D.nx } (σ'.set j (some (.int ((0 : Int) + (i : Int))))) H'
      rw [e0]
      exact hs i σ' H' (by omega) p) (by rw [Int.toNat_natCast]; exact hd)⟩
theorem b_forR1 {ta : TA} {j : Nat} {n : Nat} (h : Era K ta σ H [.v (.int (n : Int))]) (hn : n ≤ 100000) (Pv : Nat → L2.St → Hp → Prop) (h0 : ∀ H1, Ex H H1 → Pv 0 σ H1)
    (hs : ∀ (i : Nat) σ' H', i < n → Pv i σ' H' → tu { D with nx := Pv (i + 1), ct := Pv (i + 1), bk := tz D } (σ'.set j (some (.int (i : Int)))) H') (hd : ∀ σ' H', Pv n σ' H' → tz D σ' H') : tSeq (tFor (iRng1 ta) (gName j) tu) tz D σ H :=
  a_forR1 (D := { D with nx := tz D }) h hn Pv h0 hs hd
/-- a loop over a list that stands at a: its place among the slots is known -/
theorem a_forA {a : Addr} {xs : List V} {tl : TE} {j : Nat} (h : Er K tl σ H (.v (.ref a))) (hx : SqL K H a xs) (Pv : Nat → L2.St → Hp → Prop) (h0 : ∀ H1, Ex H H1 → Pv 0 σ H1) (hl : ∀ i σ' H', i ≤ xs.length → Pv i σ' H' → SqL K H' a xs)
    (hs : ∀ i x σ' H', xs[i]? = some x → Pv i σ' H' → tu { D with nx := Pv (i + 1), ct := Pv (i + 1), bk := D.nx } (σ'.set j (some x)) H') (hd : ∀ σ' H', Pv xs.length σ' H' → D.nx σ' H') : tFor (iList K tl) (gName j) tu D σ H :=
  h H (Ex.refl H) _ fun v H1 e z => by
    have ez : v = .ref a := z
    subst ez
    exact ⟨a, rfl, ⟨xs, ex_l e hx⟩, for_list Pv (h0 H1 e) hl hs hd⟩
theorem b_forA {a : Addr} {xs : List V} {tl : TE} {j : Nat} (h : Er K tl σ H (.v (.ref a))) (hx : SqL K H a xs) (Pv : Nat → L2.St → Hp → Prop) (h0 : ∀ H1, Ex H H1 → Pv 0 σ H1) (hl : ∀ i σ' H', i ≤ xs.length → Pv i σ' H' → SqL K H' a xs)
    (hs : ∀ i x σ' H', xs[i]? = some x → Pv i σ' H' → tu { D with nx := Pv (i + 1), ct := Pv (i + 1), bk := tz D } (σ'.set j (some x)) H') (hd : ∀ σ' H', Pv xs.length σ' H' → tz D σ' H') : tSeq (tFor (iList K tl) (gName j) tu) tz D σ H :=
  a_forA (D := { D with nx := tz D }) h hx Pv h0 hl hs hd
/-- a loop over a list wherever it stands; nothing that stood ahead of the loop is changed -/
theorem a_forL {xs : List V} {tl : TE} {j : Nat} (h : Er K tl σ H (.l xs)) (Pv : Hp → Nat → L2.St → Hp → Prop) (h0 : ∀ H1, Ex H H1 → Pv H1 0 σ H1) (hl : ∀ H1 i σ' H', Pv H1 i σ' H' → Ex H1 H')
    (hs : ∀ H1 i x σ' H', Ex H H1 → xs[i]? = some x → Pv H1 i σ' H' → tu { D with nx := Pv H1 (i + 1), ct := Pv H1 (i + 1), bk := D.nx } (σ'.set j (some x)) H') (hd : ∀ H1 σ' H', Ex H H1 → Pv H1 xs.length σ' H' → D.nx σ' H') : tFor (iList K tl) (gName j) tu D σ H :=
  h H (Ex.refl H) _ fun v H1 e ⟨p, ep, hp⟩ => by
    subst ep
    exact ⟨p, rfl, ⟨xs, hp⟩, for_list (Pv H1) (h0 H1 e) (fun i σ' H' _ q => ex_l (hl H1 i σ' H' q) hp) (fun i x σ' H' hx q => hs H1 i x σ' H' e hx q) (fun σ' H' q => hd H1 σ' H' e q)⟩
theorem b_forL {xs : List V} {tl : TE} {j : Nat} (h : Er K tl σ H (.l xs)) (Pv : Hp → Nat → L2.St → Hp → Prop) (h0 : ∀ H1, Ex H H1 → Pv H1 0 σ H1) (hl : ∀ H1 i σ' H', Pv H1 i σ' H' → Ex H1 H')
    (hs : ∀ H1 i x σ' H', Ex H H1 → xs[i]? = some x → Pv H1 i σ' H' → tu { D with nx := Pv H1 (i + 1), ct := Pv H1 (i + 1), bk := tz D } (σ'.set j (some x)) H') (hd : ∀ H1 σ' H', Ex H H1 → Pv H1 xs.length σ' H' → tz D σ' H') : tSeq (tFor (iList K tl) (gName j) tu) tz D σ H :=
  a_forL (D := { D with nx := tz D }) h Pv h0 hl hs hd

/-! ### loops over pairs in new tuples -/
theorem for_P {ps : List (V × V)} {g : TG} {tb : TS} {D : Ends} {σ : L2.St} {H : Hp} (Pv : Nat → L2.St → Hp → Prop) (h0 : Pv 0 σ H)
    (hs : ∀ (i : Nat) (x y : V) (T : Addr) σ H, ps[i]? = some (x, y) → Pv i σ H → H T = none → g (.ref T) σ (upd H T (.tup [x, y])) fun σ2 H2 => tb { D with nx := Pv (i + 1), ct := Pv (i + 1), bk := D.nx } σ2 H2) (hd : ∀ σ H, Pv ps.length σ H → D.nx σ H) :
    ∃ W : Nat → Nat → L2.St → Hp → Prop, (∃ m, W 0 m σ H) ∧ ∀ i m σ H, W i m σ H →
      ((ItP ps).stop i H ∧ D.nx σ H) ∨ ((ItP ps).go i H ∧ ∃ N : L2.St → Hp → Prop, (∀ σ' H', N σ' H' → ∃ m', m' < m ∧ W (i + 1) m' σ' H') ∧ ∀ v H', (ItP ps).yld i H v H' → g v σ H' fun σ2 H2 => tb { D with nx := N, ct := N, bk := D.nx } σ2 H2) := by
  refine ⟨fun i m σ H => m = ps.length - i ∧ i ≤ ps.length ∧ Pv i σ H, ⟨ps.length, by simp, Nat.zero_le _, h0⟩, ?_⟩
  rintro i m σ H ⟨rfl, hi, p⟩
  by_cases hlt : i < ps.length
  · refine .inr ⟨hlt, Pv (i + 1), fun σ' H' p' => ⟨ps.length - (i + 1), by omega, rfl, hlt, p'⟩, fun v H' y => ?_⟩
    obtain ⟨T, x, y, rfl, hT, rfl, hxy⟩ := y
    exact hs i x y T σ H hxy p hT
  · have e : i = ps.length := by omega
    subst e
    exact .inl ⟨rfl, hd σ H p⟩
/-- for a, b in zip(one, two), two texts, the names in slots j1, j2 -/
theorem a_forZ {ta : TA} {j1 j2 : Nat} {one two : Str} (h : Era K ta σ H [.v (.str one), .v (.str two)]) (Pv : Nat → L2.St → Hp → Prop) (h0 : ∀ H1, Ex H H1 → Pv 0 σ H1)
    (hs : ∀ i c1 c2 σ' H' H2, one.cps[i]? = some c1 → two.cps[i]? = some c2 → Pv i σ' H' → Ex H' H2 → tu { D with nx := Pv (i + 1), ct := Pv (i + 1), bk := D.nx } ((σ'.set j1 (some (sgn c1))).set j2 (some (sgn c2))) H2)
    (hd : ∀ σ' H', Pv (min one.length two.length) σ' H' → D.nx σ' H') : tFor (iZipS ta) (gTup K 2 (gCons (gName j1) (gCons (gName j2) gNil))) tu D σ H :=
  h H (Ex.refl H) _ fun vs H1 e z => by
    rcases z with _ | ⟨rfl, _ | ⟨rfl, _ | _⟩⟩
    refine ⟨one, two, rfl, for_P Pv (h0 H1 e) (fun i x y T σ' H' hxy p hT => ?_) (fun σ' H' p => hd σ' H' (by rw [zipS_len] at p; exact p))⟩
    obtain ⟨c1, c2, h1, h2, e1, e2⟩ := zipS_at hxy
    subst e1
    subst e2
    exact ⟨T, [_, _], rfl, st_of upd_same, rfl, _, [_], rfl, _, [], rfl, rfl, hs i c1 c2 σ' H' _ h1 h2 p (Ex.new hT)⟩
theorem b_forZ {ta : TA} {j1 j2 : Nat} {one two : Str} (h : Era K ta σ H [.v (.str one), .v (.str two)]) (Pv : Nat → L2.St → Hp → Prop) (h0 : ∀ H1, Ex H H1 → Pv 0 σ H1)
    (hs : ∀ i c1 c2 σ' H' H2, one.cps[i]? = some c1 → two.cps[i]? = some c2 → Pv i σ' H' → Ex H' H2 → tu { D with nx := Pv (i + 1), ct := Pv (i + 1), bk := tz D } ((σ'.set j1 (some (sgn c1))).set j2 (some (sgn c2))) H2)
    (hd : ∀ σ' H', Pv (min one.length two.length) σ' H' → tz D σ' H') : tSeq (tFor (iZipS ta) (gTup K 2 (gCons (gName j1) (gCons (gName j2) gNil))) tu) tz D σ H :=
  a_forZ (D := { D with nx := tz D }) h Pv h0 hs hd
theorem q_tCut {M : L2.St → Hp → Prop} (h : tu { D with nx := M } σ H) (k : ∀ σ' H', M σ' H' → tz D σ' H') : tCut tu tz D σ H := ⟨M, h, k⟩
end

/-! ### list comprehensions whose items are flat -/
section
variable {K : PySem.W.Frag} {σ : L2.St} {H H' : Hp} {te tl : TE} {t : TT} {ta : TA}
/-- what has been made behind i turns -/
def acc {α : Type} (its : List α) (f : α → Bool) (g : α → V) (i : Nat) : List V := ((its.take i).filter f).map g
theorem acc_next {α : Type} {its : List α} {f : α → Bool} {g : α → V} {i : Nat} {x : α} (h : its[i]? = some x) : acc its f g (i + 1) = acc its f g i ++ if f x = true then [g x] else [] := by
  unfold acc
  rw [List.take_add_one, h]
  simp only [Option.toList, List.filter_append, List.map_append]
  congr 1
  by_cases hf : f x = true
  · simp [hf]
  · simp [hf]
theorem acc_all {α : Type} {its : List α} {f : α → Bool} {g : α → V} : acc its f g its.length = (its.filter f).map g := by
  unfold acc
  rw [List.take_length]
theorem acc_len {α : Type} (its : List α) (f : α → Bool) (g : α → V) (i : Nat) : (acc its f g i).length ≤ i := by
  unfold acc
  rw [List.length_map]
  refine Nat.le_trans (List.length_filter_le _ _) ?_
  rw [List.length_take]
  exact Nat.min_le_left _ _
def Cv {α : Type} (H : Hp) (its : List α) (f : α → Bool) (g : α → V) (Dl : Addr) (i : Nat) (H' : Hp) : Prop := H Dl = none ∧ Ex H H' ∧ H' Dl = some (.lst (acc its f g i))
theorem cv_turn {α : Type} {its : List α} {H H' H'' : Hp} {f : α → Bool} {g : α → V} {Dl : Addr} {i : Nat} {x : α} {σ2 : L2.St} (p : Cv H its f g Dl i H') (hx : its[i]? = some x) (hi : its.length ≤ 50000) (he2 : Ex H' H'') (ht : EvT t σ2 H (f x)) (he : f x = true → Er K te σ2 H (.v (g x))) :
    t σ2 H'' fun b H3 => if b = true then te σ2 H3 fun y H4 => ∃ acc, H4 Dl = some (.lst acc) ∧ acc.length < sizeLine ∧ Cv H its f g Dl (i + 1) (upd H4 Dl (.lst (acc ++ [y]))) else Cv H its f g Dl (i + 1) H3 := by
  obtain ⟨p1, p2, p3⟩ := p
  have hlt := (List.getElem?_eq_some_iff.mp hx).1
  refine ht H'' (p2.trans he2) _ fun H3 e3 => ?_
  have p4 := e3 Dl _ (he2 Dl _ p3)
  cases hf : f x with
  | true =>
    show te σ2 H3 fun y H4 => ∃ a, H4 Dl = some (.lst a) ∧ a.length < sizeLine ∧ Cv H its f g Dl (i + 1) (upd H4 Dl (.lst (a ++ [y])))
    refine he hf H3 ((p2.trans he2).trans e3) _ fun y H4 e4 z => ?_
    have ez : y = g x := z
    subst ez
    refine ⟨acc its f g i, e4 Dl _ p4, sz_lt (by have := acc_len its f g i; omega), p1, Ex.mut (((p2.trans he2).trans e3).trans e4) p1, ?_⟩
    rw [acc_next hx, if_pos hf]
    exact upd_same
  | false =>
    show Cv H its f g Dl (i + 1) H3
    refine ⟨p1, (p2.trans he2).trans e3, ?_⟩
    rw [acc_next hx, if_neg (by rw [hf]; exact Bool.false_ne_true), List.append_nil]
    exact p4
/-- [e for x in range(n) if t] -/
theorem er_lcR {n j : Nat} {vs : List Nat} (f : Nat → Bool) (g : Nat → V) (h : Era K ta σ H [.v (.int (n : Int))]) (hn : n ≤ 40000) (hw : ∀ x, wipe ((wipe σ vs).set j (some x)) vs = wipe σ vs)
    (ht : ∀ i H1, Ex H H1 → i < n → EvT t ((wipe σ vs).set j (some (.int (i : Int)))) H1 (f i)) (he : ∀ i H1, Ex H H1 → i < n → f i = true → Er K te ((wipe σ vs).set j (some (.int (i : Int)))) H1 (.v (g i))) :
    Er K (tLc (iRng1 ta) (gName j) t te vs) σ H (.n (((List.range n).filter f).map g)) := fun H0 e Q q => h H0 e _ fun ws H1 e1 z => by
  rcases z with _ | ⟨rfl, _ | _⟩
  refine ⟨(n : Int), rfl, by omega, by omega, fun Dl hD => ?_⟩
  rw [Int.toNat_natCast]
  refine lc_range (lo := 0) (n := n) (Cv H1 (List.range n) f g Dl) ⟨hD, Ex.new hD, upd_same⟩ (fun i H' hi p => ?_) fun H' p => ?_
  · have e0 : (0 : Int) + (i : Int) = (i : Int) := Int.zero_add _
    show wipe ((wipe σ vs).set j (some (.int ((0 : Int) + (i : Int))))) vs = wipe σ vs ∧ t ((wipe σ vs).set j (some (.int ((0 : Int) + (i : Int))))) H' fun b H3 => if b = true then te ((wipe σ vs).set j (some (.int ((0 : Int) + (i : Int))))) H3 fun y H4 => ∃ acc, H4 Dl = some (.lst acc) ∧ acc.length < sizeLine ∧ Cv H1 (List.range n) f g Dl (i + 1) (upd H4 Dl (.lst (acc ++ [y]))) else Cv H1 (List.range n) f g Dl (i + 1) H3
    rw [e0]
    exact ⟨hw _, cv_turn p (x := i) (by rw [List.getElem?_range hi]) (by rw [List.length_range]; omega) (Ex.refl _) (ht i H1 (e.trans e1) hi) (fun hf => he i H1 (e.trans e1) hi hf)⟩
  · obtain ⟨p1, p2, p3⟩ := p
    refine q _ H' (e1.trans p2) ⟨Dl, rfl, ?_⟩
    rw [p3]
    have := acc_all (its := List.range n) (f := f) (g := g)
    rw [List.length_range] at this
    rw [this]
/-- .. over a list -/
theorem er_lcL {α : Type} {its : List α} {inj : α → V} {j : Nat} {vs : List Nat} (f : α → Bool) (g : α → V) (h : Er K tl σ H (.l (its.map inj))) (hz : its.length ≤ 40000) (hw : ∀ x, wipe ((wipe σ vs).set j (some x)) vs = wipe σ vs)
    (ht : ∀ (i : Nat) x H1, Ex H H1 → its[i]? = some x → EvT t ((wipe σ vs).set j (some (inj x))) H1 (f x)) (he : ∀ (i : Nat) x H1, Ex H H1 → its[i]? = some x → f x = true → Er K te ((wipe σ vs).set j (some (inj x))) H1 (.v (g x))) :
    Er K (tLc (iList K tl) (gName j) t te vs) σ H (.n ((its.filter f).map g)) := fun H0 e Q q => h H0 e _ fun w H1 e1 ⟨a, ea, ha⟩ => by
  subst ea
  refine ⟨a, rfl, ⟨_, ha⟩, fun Dl hD => ?_⟩
  refine lc_list (xs := its.map inj) (Cv H1 its f g Dl) ⟨hD, Ex.new hD, upd_same⟩ (fun i H' _ p => ex_l p.2.1 ha) (fun i y H' hy p => ?_) fun H' p => ?_
  · rw [List.getElem?_map] at hy
    cases hx : its[i]? with
    | none => rw [hx] at hy; cases hy
    | some x =>
      rw [hx] at hy
      have ey : inj x = y := Option.some.inj hy
      subst ey
      exact ⟨hw _, cv_turn p hx (by omega) (Ex.refl _) (ht i x H1 (e.trans e1) hx) (fun hf => he i x H1 (e.trans e1) hx hf)⟩
  · obtain ⟨p1, p2, p3⟩ := p
    refine q _ H' (e1.trans p2) ⟨Dl, rfl, ?_⟩
    rw [p3, List.length_map, acc_all]

theorem lc_P {ps : List (V × V)} {g : TG} {tt : TT} {te : TE} {vs : List Nat} {σ : L2.St} {H1 : Hp} {D : Addr} {Qd : Hp → Prop} (Pv : Nat → Hp → Prop) (h0 : Pv 0 (upd H1 D (.lst [])))
    (hs : ∀ (i : Nat) x y (T : Addr) H, ps[i]? = some (x, y) → Pv i H → H T = none → g (.ref T) (wipe σ vs) (upd H T (.tup [x, y])) fun σ2 H2 => wipe σ2 vs = wipe σ vs ∧ tt σ2 H2 fun b H3 =>
      if b = true then te σ2 H3 fun y H4 => ∃ acc, H4 D = some (.lst acc) ∧ acc.length < sizeLine ∧ Pv (i + 1) (upd H4 D (.lst (acc ++ [y]))) else Pv (i + 1) H3) (hd : ∀ H, Pv ps.length H → Qd H) :
    ∃ W : Nat → Nat → Hp → Prop, (∃ m, W 0 m (upd H1 D (.lst []))) ∧ ∀ i m H, W i m H →
      ((ItP ps).stop i H ∧ Qd H) ∨ ((ItP ps).go i H ∧ ∃ Nx : Hp → Prop, (∀ H', Nx H' → ∃ m', m' < m ∧ W (i + 1) m' H') ∧ ∀ x H', (ItP ps).yld i H x H' → g x (wipe σ vs) H' fun σ2 H2 => wipe σ2 vs = wipe σ vs ∧ tt σ2 H2 fun b H3 =>
        if b = true then te σ2 H3 fun y H4 => ∃ acc, H4 D = some (.lst acc) ∧ acc.length < sizeLine ∧ Nx (upd H4 D (.lst (acc ++ [y]))) else Nx H3) := by
  refine ⟨fun i m H => m = ps.length - i ∧ i ≤ ps.length ∧ Pv i H, ⟨ps.length, by simp, Nat.zero_le _, h0⟩, ?_⟩
  rintro i m H ⟨rfl, hi, p⟩
  by_cases hlt : i < ps.length
  · refine .inr ⟨hlt, Pv (i + 1), fun H' p' => ⟨ps.length - (i + 1), by omega, rfl, hlt, p'⟩, fun v H' y => ?_⟩
    obtain ⟨T, x, y, rfl, hT, rfl, hxy⟩ := y
    exact hs i x y T H hxy p hT
  · have e : i = ps.length := by omega
    subst e
    exact .inl ⟨rfl, hd H p⟩
theorem lc_S {z : Str} {g : TG} {tt : TT} {te : TE} {vs : List Nat} {σ : L2.St} {H1 : Hp} {D : Addr} {Qd : Hp → Prop} (Pv : Nat → Hp → Prop) (h0 : Pv 0 (upd H1 D (.lst [])))
    (hs : ∀ (i : Nat) c H, z.cps.toList[i]? = some c → Pv i H → g (sgn c) (wipe σ vs) H fun σ2 H2 => wipe σ2 vs = wipe σ vs ∧ tt σ2 H2 fun b H3 =>
      if b = true then te σ2 H3 fun y H4 => ∃ acc, H4 D = some (.lst acc) ∧ acc.length < sizeLine ∧ Pv (i + 1) (upd H4 D (.lst (acc ++ [y]))) else Pv (i + 1) H3) (hd : ∀ H, Pv z.cps.size H → Qd H) :
    ∃ W : Nat → Nat → Hp → Prop, (∃ m, W 0 m (upd H1 D (.lst []))) ∧ ∀ i m H, W i m H →
      ((Its z).stop i H ∧ Qd H) ∨ ((Its z).go i H ∧ ∃ Nx : Hp → Prop, (∀ H', Nx H' → ∃ m', m' < m ∧ W (i + 1) m' H') ∧ ∀ x H', (Its z).yld i H x H' → g x (wipe σ vs) H' fun σ2 H2 => wipe σ2 vs = wipe σ vs ∧ tt σ2 H2 fun b H3 =>
        if b = true then te σ2 H3 fun y H4 => ∃ acc, H4 D = some (.lst acc) ∧ acc.length < sizeLine ∧ Nx (upd H4 D (.lst (acc ++ [y]))) else Nx H3) := by
  refine ⟨fun i m H => m = z.cps.size - i ∧ i ≤ z.cps.size ∧ Pv i H, ⟨z.cps.size, by simp, Nat.zero_le _, h0⟩, ?_⟩
  rintro i m H ⟨rfl, hi, p⟩
  by_cases hlt : i < z.cps.size
  · refine .inr ⟨hlt, Pv (i + 1), fun H' p' => ⟨z.cps.size - (i + 1), by omega, rfl, hlt, p'⟩, fun v H' y => ?_⟩
    obtain ⟨rfl, c, hc, rfl⟩ := y
    exact hs i c _ (by simpa using hc) p
  · have e : i = z.cps.size := by omega
    subst e
    exact .inl ⟨Nat.le_refl _, hd H p⟩
/-- [e for c in text if t] -/
theorem er_lcS {z : Str} {j : Nat} {vs : List Nat} (f : Nat → Bool) (g : Nat → V) (h : Er K tl σ H (.v (.str z))) (hz : z.length ≤ 40000) (hw : ∀ x, wipe ((wipe σ vs).set j (some x)) vs = wipe σ vs)
    (ht : ∀ (i : Nat) c H1, Ex H H1 → z.cps.toList[i]? = some c → EvT t ((wipe σ vs).set j (some (sgn c))) H1 (f c)) (he : ∀ (i : Nat) c H1, Ex H H1 → z.cps.toList[i]? = some c → f c = true → Er K te ((wipe σ vs).set j (some (sgn c))) H1 (.v (g c))) :
    Er K (tLc (iStr tl) (gName j) t te vs) σ H (.n ((z.cps.toList.filter f).map g)) := fun H0 e Q q => h H0 e _ fun w H1 e1 ew => by
  refine ⟨z, ew, fun Dl hD => ?_⟩
  refine lc_S (z := z) (Cv H1 z.cps.toList f g Dl) ⟨hD, Ex.new hD, upd_same⟩ (fun i c H' hc p => ?_) fun H' p => ?_
  · exact ⟨hw _, cv_turn p hc (by show z.cps.toList.length ≤ 50000; have : z.cps.toList.length = z.length := by simp [Str.length]
                                  omega) (Ex.refl _) (ht i c H1 (e.trans e1) hc) (fun hf => he i c H1 (e.trans e1) hc hf)⟩
  · obtain ⟨p1, p2, p3⟩ := p
    refine q _ H' (e1.trans p2) ⟨Dl, rfl, ?_⟩
    rw [p3, ← acc_all]
    simp
/-- [e for a, b in zip(one, two) if t], the names in slots j1, j2 -/
theorem er_lcZ {one two : Str} {j1 j2 : Nat} {vs : List Nat} (f : Nat × Nat → Bool) (g : Nat × Nat → V) (h : Era K ta σ H [.v (.str one), .v (.str two)]) (hz : one.length ≤ 40000) (hw : ∀ x y, wipe (((wipe σ vs).set j1 (some x)).set j2 (some y)) vs = wipe σ vs)
    (ht : ∀ (i : Nat) c1 c2 H1, Ex H H1 → one.cps[i]? = some c1 → two.cps[i]? = some c2 → EvT t (((wipe σ vs).set j1 (some (sgn c1))).set j2 (some (sgn c2))) H1 (f (c1, c2)))
    (he : ∀ (i : Nat) c1 c2 H1, Ex H H1 → one.cps[i]? = some c1 → two.cps[i]? = some c2 → f (c1, c2) = true → Er K te (((wipe σ vs).set j1 (some (sgn c1))).set j2 (some (sgn c2))) H1 (.v (g (c1, c2)))) :
    Er K (tLc (iZipS ta) (gTup K 2 (gCons (gName j1) (gCons (gName j2) gNil))) t te vs) σ H (.n (((one.cps.toList.zip two.cps.toList).filter f).map g)) := fun H0 e Q q => h H0 e _ fun ws H1 e1 z => by
  rcases z with _ | ⟨rfl, _ | ⟨rfl, _ | _⟩⟩
  refine ⟨one, two, rfl, fun Dl hD => ?_⟩
  refine lc_P (ps := zipS one two) (Cv H1 (one.cps.toList.zip two.cps.toList) f g Dl) ⟨hD, Ex.new hD, upd_same⟩ (fun i x y T H' hxy p hT => ?_) fun H' p => ?_
  · obtain ⟨c1, c2, h1, h2, e1', e2'⟩ := zipS_at hxy
    subst e1'
    subst e2'
    have hp : (one.cps.toList.zip two.cps.toList)[i]? = some (c1, c2) := List.getElem?_zip_eq_some (z := (c1, c2)) |>.mpr ⟨by simpa using h1, by simpa using h2⟩
    refine ⟨T, [_, _], rfl, st_of upd_same, rfl, _, [_], rfl, _, [], rfl, rfl, hw _ _, cv_turn p hp ?_ (Ex.new hT) (ht i c1 c2 H1 (e.trans e1) h1 h2) (fun hf => he i c1 c2 H1 (e.trans e1) h1 h2 hf)⟩
    rw [List.length_zip]
    have : one.cps.toList.length = one.length := by simp [Str.length]
    omega
  · obtain ⟨p1, p2, p3⟩ := p
    refine q _ H' (e1.trans p2) ⟨Dl, rfl, ?_⟩
    rw [p3, ← acc_all, zipS_len]
    simp
theorem enumS_at {x : Str} {i : Nat} {a b : V} (h : (enumS x)[i]? = some (a, b)) : ∃ c, x.cps.toList[i]? = some c ∧ a = .int (i : Int) ∧ b = sgn c := by
  have hl : i < (enumS x).length := (List.getElem?_eq_some_iff.mp h).1
  rw [enumS_len] at hl
  have e := enumS_get (x := x) (i := i) (c := x.cps[i]) (by simp [hl])
  rw [h] at e
  have e2 := Option.some.inj e
  injection e2 with e3 e4
  exact ⟨x.cps[i], by simp [hl], e3, e4⟩
/-- [e for k, c in enumerate(text) if t], the names in slots j1, j2 -/
theorem er_lcE {z : Str} {j1 j2 : Nat} {vs : List Nat} (f : Nat × Nat → Bool) (g : Nat × Nat → V) (h : Era K ta σ H [.v (.str z)]) (hz : z.length ≤ 40000) (hw : ∀ x y, wipe (((wipe σ vs).set j1 (some x)).set j2 (some y)) vs = wipe σ vs)
    (ht : ∀ (i : Nat) c H1, Ex H H1 → z.cps.toList[i]? = some c → EvT t (((wipe σ vs).set j1 (some (.int (i : Int)))).set j2 (some (sgn c))) H1 (f (c, i)))
    (he : ∀ (i : Nat) c H1, Ex H H1 → z.cps.toList[i]? = some c → f (c, i) = true → Er K te (((wipe σ vs).set j1 (some (.int (i : Int)))).set j2 (some (sgn c))) H1 (.v (g (c, i)))) :
    Er K (tLc (iEnumS ta) (gTup K 2 (gCons (gName j1) (gCons (gName j2) gNil))) t te vs) σ H (.n ((z.cps.toList.zipIdx.filter f).map g)) := fun H0 e Q q => h H0 e _ fun ws H1 e1 zz => by
  rcases zz with _ | ⟨rfl, _ | _⟩
  refine ⟨z, rfl, fun Dl hD => ?_⟩
  refine lc_P (ps := enumS z) (Cv H1 z.cps.toList.zipIdx f g Dl) ⟨hD, Ex.new hD, upd_same⟩ (fun i x y T H' hxy p hT => ?_) fun H' p => ?_
  · obtain ⟨c, h1, e1', e2'⟩ := enumS_at hxy
    subst e1'
    subst e2'
    have hp : z.cps.toList.zipIdx[i]? = some (c, i) := by rw [List.getElem?_zipIdx, h1]; simp
    refine ⟨T, [_, _], rfl, st_of upd_same, rfl, _, [_], rfl, _, [], rfl, rfl, hw _ _, cv_turn p hp ?_ (Ex.new hT) (ht i c H1 (e.trans e1) h1) (fun hf => he i c H1 (e.trans e1) h1 hf)⟩
    rw [List.length_zipIdx]
    have : z.cps.toList.length = z.length := by simp [Str.length]
    omega
  · obtain ⟨p1, p2, p3⟩ := p
    refine q _ H' (e1.trans p2) ⟨Dl, rfl, ?_⟩
    rw [p3, ← acc_all, enumS_len]
    simp
end
end Mi

set_option maxHeartbeats 2000000
namespace Mi
open PySem PySem.Spec PyProof.Rows L2 Evl

/-! ### a text by its codes -/
def S (l : List Nat) : Str := ⟨l.toArray⟩
theorem S_list (l : List Nat) : (S l).cps.toList = l := rfl
theorem S_len (l : List Nat) : (S l).length = l.length := by simp [S, Str.length]
theorem S_size (l : List Nat) : (S l).cps.size = l.length := by simp [S]
theorem S_of (x : Str) : S x.cps.toList = x := str_ext rfl
theorem S_inj {a b : List Nat} (h : S a = S b) : a = b := by
  exact congrArg (fun x : Str => x.cps.toList) h
theorem S_eq {a b : List Nat} : (V.str (S a) = V.str (S b)) ↔ a = b := ⟨fun h => S_inj (V.str.inj h), fun h => by rw [h]⟩
theorem S_app (a b : List Nat) : S a ++ S b = S (a ++ b) := str_ext (by
  show ((S a).cps ++ (S b).cps).toList = a ++ b
  simp [S])
theorem S_one (c : Nat) : (⟨#[c]⟩ : Str) = S [c] := rfl
theorem S_reps (a : List Nat) (n : Nat) : reps (S a) n = S (List.replicate n a).flatten := rfl
theorem S_at {l : List Nat} {i : Nat} : (S l).cps[i]? = l[i]? := by simp [S]
theorem join_ones (cs : List Nat) : Txt.join (S []) (cs.map fun c => S [c]) = S cs := by
  show Builtin.Str.glued (S []) (cs.map fun c => S [c]) = S cs
  rw [StrLaws.glued_eq_join]
  induction cs with
  | nil => rfl
  | cons c r ih =>
    cases r with
    | nil => rfl
    | cons c2 r2 =>
      show S [c] ++ S [] ++ Str.join (S []) ((c2 :: r2).map fun c => S [c]) = S (c :: c2 :: r2)
      rw [ih, S_app, S_app]
      simp

section
variable {K : PySem.W.Frag} {σ : L2.St} {H H' : Hp} {te ta tb tc : TE} {t u : TT} {tr : TA} {d d1 d2 d' : Dd} {x y : V} {r : R2}
def Dd.val : Dd → V
  | .v x => x
  | _ => .non
theorem er_lst' {ds : List Dd} (h : Era K tr σ H ds) (hd : ds = (ds.map Dd.val).map Dd.v) (hl : ds.length ≤ 100000) : Er K (tLst tr) σ H (.n (ds.map Dd.val)) := by
  rw [hd] at h
  exact er_lst h (by rw [List.length_map]; exact hl)
theorem er_tup' {ds : List Dd} (h : Era K tr σ H ds) (hd : ds = (ds.map Dd.val).map Dd.v) (hl : ds.length ≤ 100000) : Er K (tTup tr) σ H (.u (ds.map Dd.val)) := by
  rw [hd] at h
  exact er_tup h (by rw [List.length_map]; exact hl)
theorem ro_mulL {i j : Int} (h1 : -18446744073709551616 < i) (h2 : i < 18446744073709551616) : Ro K (rI CMul fun i j => .int (i * j)) (.v (.int i)) (.v (.int j)) (.v (.int (i * j))) := ro_I (.inl ⟨h1, h2⟩)
theorem ro_mulR {i j : Int} (h1 : -18446744073709551616 < j) (h2 : j < 18446744073709551616) : Ro K (rI CMul fun i j => .int (i * j)) (.v (.int i)) (.v (.int j)) (.v (.int (i * j))) := ro_I (.inr ⟨h1, h2⟩)
theorem ro_div {i j : Int} (h1 : 0 < j) (h2 : j < 1073741824) : Ro K (rI CDiv fun i j => .int (i / j)) (.v (.int i)) (.v (.int j)) (.v (.int (i / j))) := ro_I ⟨h1, h2⟩
theorem ro_mod {i j : Int} (h1 : 0 < j) : Ro K (rI (fun _ j => 0 < j) fun i j => .int (i % j)) (.v (.int i)) (.v (.int j)) (.v (.int (i % j))) := ro_I h1
theorem ro_ixI {ns : List Int} {i : Int} (h0 : 0 ≤ i) (h1 : i < ns.length) : Ro K (rIxL K) (.l (vis ns)) (.v (.int i)) (.v (.int (ns.getD i.toNat 0))) := by
  refine ro_ixL h0 ?_
  have h2 : i.toNat < ns.length := by omega
  rw [List.getElem?_map, List.getD_eq_getElem?_getD, List.getElem?_eq_getElem h2]
  rfl
theorem ro_ixIN {ns : List Int} {i : Int} (h0 : 0 ≤ i) (h1 : i < ns.length) : Ro K (rIxL K) (.n (vis ns)) (.v (.int i)) (.v (.int (ns.getD i.toNat 0))) := fun v w H1 a b => ro_ixI h0 h1 v w H1 a.n2l b
theorem ro_ixT2 {ys : List Str} {i : Int} (h0 : 0 ≤ i) (h1 : i < ys.length) : Ro K (rIxL K) (.l (vss ys)) (.v (.int i)) (.v (.str (ys.getD i.toNat Str.empty))) := by
  refine ro_ixL h0 ?_
  have h2 : i.toNat < ys.length := by omega
  rw [List.getElem?_map, List.getD_eq_getElem?_getD, List.getElem?_eq_getElem h2]
  rfl
theorem ro_ixG {xs : List V} {i : Int} (h0 : 0 ≤ i) (h1 : i < xs.length) : Ro K (rIxL K) (.n xs) (.v (.int i)) (.v (xs.getD i.toNat .non)) := by
  refine ro_ixN h0 ?_
  have h2 : i.toNat < xs.length := by omega
  rw [List.getD_eq_getElem?_getD, List.getElem?_eq_getElem h2]
  rfl
theorem ro_ixC {l : List Nat} {i : Int} (h0 : 0 ≤ i) (h1 : i < l.length) (hz : l.length ≤ 100000) : Ro K rIxS (.v (.str (S l))) (.v (.int i)) (.v (.str (S [l.getD i.toNat 0]))) := by
  refine ro_ixS (by rw [S_len]; exact hz) h0 ?_
  have h2 : i.toNat < l.length := by omega
  rw [S_list, List.getD_eq_getElem?_getD, List.getElem?_eq_getElem h2]
  rfl
theorem ro_addC {a b : List Nat} (h : a.length + b.length ≤ 100000) : Ro K rAddS2 (.v (.str (S a))) (.v (.str (S b))) (.v (.str (S (a ++ b)))) := by
  rw [← S_app]
  exact ro_addS (by rw [S_len, S_len]; exact h)
theorem ro_mulC {a : List Nat} {n : Nat} (hn : n ≤ 1000) (ha : a.length ≤ 1000) : Ro K rMulS (.v (.str (S a))) (.v (.int (n : Int))) (.v (.str (S (List.replicate n a).flatten))) := by
  rw [← S_reps]
  exact ro_mulS hn (by rw [S_len]; exact ha)
theorem ro_eqC {a b : List Nat} : Ro K rEq (.v (.str (S a))) (.v (.str (S b))) (.v (.bl (decide (a = b)))) := by
  have e : decide (V.str (S a) = V.str (S b)) = decide (a = b) := by rw [decide_eq_decide]; exact S_eq
  rw [← e]
  exact ro_eq rfl
theorem ro_neC {a b : List Nat} : Ro K rNe (.v (.str (S a))) (.v (.str (S b))) (.v (.bl (!decide (a = b)))) := by
  have e : decide (V.str (S a) = V.str (S b)) = decide (a = b) := by rw [decide_eq_decide]; exact S_eq
  rw [← e]
  exact ro_ne rfl
theorem ro_eqI {a b : Int} : Ro K rEq (.v (.int a)) (.v (.int b)) (.v (.bl (decide (a = b)))) := by
  have e : decide (V.int a = V.int b) = decide (a = b) := by rw [decide_eq_decide]; exact ⟨V.int.inj, fun h => by rw [h]⟩
  rw [← e]
  exact ro_eq rfl
theorem ro_neI {a b : Int} : Ro K rNe (.v (.int a)) (.v (.int b)) (.v (.bl (!decide (a = b)))) := by
  have e : decide (V.int a = V.int b) = decide (a = b) := by rw [decide_eq_decide]; exact ⟨V.int.inj, fun h => by rw [h]⟩
  rw [← e]
  exact ro_ne rfl
theorem ro_eqB {a b : Bool} : Ro K rEq (.v (.bl a)) (.v (.bl b)) (.v (.bl (decide (a = b)))) := by
  have e : decide (V.bl a = V.bl b) = decide (a = b) := by rw [decide_eq_decide]; exact ⟨V.bl.inj, fun h => by rw [h]⟩
  rw [← e]
  exact ro_eq rfl
theorem ro_neB {a b : Bool} : Ro K rNe (.v (.bl a)) (.v (.bl b)) (.v (.bl (!decide (a = b)))) := by
  have e : decide (V.bl a = V.bl b) = decide (a = b) := by rw [decide_eq_decide]; exact ⟨V.bl.inj, fun h => by rw [h]⟩
  rw [← e]
  exact ro_ne rfl
theorem rc_lenC {z : List Nat} (hz : z.length ≤ 100000) : Rc K rLenStr [.v (.str (S z))] (.v (.int (z.length : Int))) := by
  have h := rc_lenS (K := K) (z := S z) (by rw [S_len]; exact hz)
  rw [S_len] at h
  exact h
theorem rc_lenI {ns : List Int} : Rc K (rLenS K) [.l (vis ns)] (.v (.int (ns.length : Int))) := by
  have h := rc_lenL (K := K) (xs := vis ns)
  rw [List.length_map] at h
  exact h
theorem rc_lenT {ns : List Str} : Rc K (rLenS K) [.l (vss ns)] (.v (.int (ns.length : Int))) := by
  have h := rc_lenL (K := K) (xs := vss ns)
  rw [List.length_map] at h
  exact h
theorem rc_lenIN {ns : List Int} : Rc K (rLenS K) [.n (vis ns)] (.v (.int (ns.length : Int))) := by
  have h := rc_lenN (K := K) (xs := vis ns)
  rw [List.length_map] at h
  exact h
theorem rc_lenTN {ns : List Str} : Rc K (rLenS K) [.n (vss ns)] (.v (.int (ns.length : Int))) := by
  have h := rc_lenN (K := K) (xs := vss ns)
  rw [List.length_map] at h
  exact h
/-- ''.join of texts of one sign each -/
theorem rm_joinC {cs : List Nat} (hz : cs.length ≤ 100000) : Rm K "str" (rJoin K) (.v (.str (S []))) [.n (cs.map fun c => V.str (S [c]))] (.v (.str (S cs))) := by
  have h := rm_join (K := K) (a := S []) (ys := cs.map fun c => S [c]) (by
    rw [List.map_map, List.length_map, S_len]
    have e : ((fun x : Str => x.length) ∘ fun c => S [c]) = fun _ => 1 := by funext c; exact S_len [c]
    rw [e, List.map_const']
    simp
    exact hz)
  rw [join_ones] at h
  have e : vss (cs.map fun c => S [c]) = cs.map fun c => V.str (S [c]) := by rw [vss, List.map_map]; rfl
  rw [e] at h
  exact h
end

/-! ### a def of the text -/
structure At (K : PySem.W.Frag) (mg : Str → Option Value) (x : Str) (st : Stmt) (ps : List Str) : Prop where
  ex : ∃ f fd, mg x = some (.ref f) ∧ Fun K x x st f fd ∧ Binds K fd ps [] ∧
    (ps.length = 1 → ∀ (s : Shared) (w1 : Value), BindsTo s fd ⟨[], ps.zip [w1]⟩ (ps.zip [w1])) ∧
    (∀ p q, ps = [p, q] → ∀ (s : Shared) (w1 w2 : Value), BindsTo s fd ⟨[], [q, p].zip [w1, w2]⟩ ([p, q].zip [w2, w1]))
theorem IsAll.len {K : PySem.W.Frag} {H : Hp} : ∀ {ds : List Dd} {vs : List V}, IsAll K H ds vs → ds.length = vs.length
  | _, _, .nil => rfl
  | _, _, .cons _ b => congrArg (· + 1) (IsAll.len b)
theorem At.hasR {P : Program} {w : World} {K : PySem.W.Frag} {mg : Str → Option Value} {base : Heap} {x : Str} {st : Stmt} {N ps : List Str} {k : Nat} {T : Type} {pre : T → Prop} {args : T → List Dd} {ret : T → Dd}
    (h : At K mg x st ps) (Sc : FnScope N ps (defScope st)) (hl : ∀ a, (args a).length = ps.length)
    (hbody : ∀ (f : Addr) (cdv : Value) (A : Around) (outer : List Env) (s : Shared) (H : Hp) (a : T) (vs : List V) (Q : VK) (E : XK), Room k (A.deeper (envOfC x (defScope st) s.heap.objs.size f cdv)) → pre a → IsAll K H (args a) vs →
      (∀ v H', Ex H H' → Is K H' (ret a) v → Q v H') →
      ∃ t, PSs (cxOf CX0 P w K mg base N x (defScope st) f cdv A outer s H E).nox (defBody st) t ∧ t { nx := fun _ H' => Q .non H', rt := Q } (start N vs) H) :
    Has P w K mg base (k + 1) x ps (spR K pre args ret) := by
  obtain ⟨f, fd, hm, F, b0, b1, b2⟩ := h.ex
  refine ⟨f, fd, hm, F.kp, F.ok Sc (fun vs H Q E hsp => ?_) (fun cdv A outer s H vs Q E hr hsp => ?_), b0, b1, b2⟩
  · obtain ⟨a, _, hv, _⟩ := hsp
    rw [← hv.len, hl]
  · obtain ⟨a, hp, hv, hk⟩ := hsp
    exact hbody f cdv A outer s H a vs Q E hr hp hv hk
theorem Has.mono {P : Program} {w : World} {K : PySem.W.Frag} {mg : Str → Option Value} {base : Heap} {j k : Nat} {x : Str} {ps : List Str} {sp : Sp} (h : Has P w K mg base j x ps sp) (hj : j ≤ k) : Has P w K mg base k x ps sp := by
  obtain ⟨f, fd, a, b, c, d⟩ := h.ex
  exact ⟨f, fd, a, b, c.mono hj, d⟩

/-! ### the same, over texts by their codes -/
section
variable {K : PySem.W.Frag} {σ : L2.St} {H H' : Hp} {te tl : TE} {t : TT} {ta : TA} {D : Ends} {tu tz : TS}
theorem c_forZ {j1 j2 : Nat} {one two : List Nat} (h : Era K ta σ H [.s (S one), .s (S two)]) (Pv : Nat → L2.St → Hp → Prop) (h0 : ∀ H1, Ex H H1 → Pv 0 σ H1)
    (hs : ∀ (i : Nat) c1 c2 σ' H' H2, one[i]? = some c1 → two[i]? = some c2 → Pv i σ' H' → Ex H' H2 → tu { D with nx := Pv (i + 1), ct := Pv (i + 1), bk := tz D } ((σ'.set j1 (some (.str (S [c1])))).set j2 (some (.str (S [c2])))) H2)
    (hd : ∀ σ' H', Pv (min one.length two.length) σ' H' → tz D σ' H') : tSeq (tFor (iZipS ta) (gTup K 2 (gCons (gName j1) (gCons (gName j2) gNil))) tu) tz D σ H :=
  b_forZ h Pv h0 (fun i c1 c2 σ' H' H2 h1 h2 => hs i c1 c2 σ' H' H2 (by rw [← S_at]; exact h1) (by rw [← S_at]; exact h2)) (by rw [S_len, S_len]; exact hd)
theorem c_lcZ {one two : List Nat} {j1 j2 : Nat} {vs : List Nat} (f : Nat × Nat → Bool) (g : Nat × Nat → V) (h : Era K ta σ H [.s (S one), .s (S two)]) (hz : one.length ≤ 40000) (hw : ∀ x y, wipe (((wipe σ vs).set j1 (some x)).set j2 (some y)) vs = wipe σ vs)
    (ht : ∀ (i : Nat) c1 c2 H1, Ex H H1 → one[i]? = some c1 → two[i]? = some c2 → EvT t (((wipe σ vs).set j1 (some (.str (S [c1])))).set j2 (some (.str (S [c2])))) H1 (f (c1, c2)))
    (he : ∀ (i : Nat) c1 c2 H1, Ex H H1 → one[i]? = some c1 → two[i]? = some c2 → f (c1, c2) = true → Er K te (((wipe σ vs).set j1 (some (.str (S [c1])))).set j2 (some (.str (S [c2])))) H1 (.v (g (c1, c2)))) :
    Er K (tLc (iZipS ta) (gTup K 2 (gCons (gName j1) (gCons (gName j2) gNil))) t te vs) σ H (.n (((one.zip two).filter f).map g)) :=
  er_lcZ (one := S one) (two := S two) f g h (by rw [S_len]; exact hz) hw (fun i c1 c2 H1 e h1 h2 => ht i c1 c2 H1 e (by rw [← S_at]; exact h1) (by rw [← S_at]; exact h2)) (fun i c1 c2 H1 e h1 h2 => he i c1 c2 H1 e (by rw [← S_at]; exact h1) (by rw [← S_at]; exact h2))
theorem c_lcE {z : List Nat} {j1 j2 : Nat} {vs : List Nat} (f : Nat × Nat → Bool) (g : Nat × Nat → V) (h : Era K ta σ H [.s (S z)]) (hz : z.length ≤ 40000) (hw : ∀ x y, wipe (((wipe σ vs).set j1 (some x)).set j2 (some y)) vs = wipe σ vs)
    (ht : ∀ (i : Nat) c H1, Ex H H1 → z[i]? = some c → EvT t (((wipe σ vs).set j1 (some (.int (i : Int)))).set j2 (some (.str (S [c])))) H1 (f (c, i)))
    (he : ∀ (i : Nat) c H1, Ex H H1 → z[i]? = some c → f (c, i) = true → Er K te (((wipe σ vs).set j1 (some (.int (i : Int)))).set j2 (some (.str (S [c])))) H1 (.v (g (c, i)))) :
    Er K (tLc (iEnumS ta) (gTup K 2 (gCons (gName j1) (gCons (gName j2) gNil))) t te vs) σ H (.n ((z.zipIdx.filter f).map g)) :=
  er_lcE (z := S z) f g h (by rw [S_len]; exact hz) hw ht he
theorem c_lcS {z : List Nat} {j : Nat} {vs : List Nat} (f : Nat → Bool) (g : Nat → V) (h : Er K tl σ H (.s (S z))) (hz : z.length ≤ 40000) (hw : ∀ x, wipe ((wipe σ vs).set j (some x)) vs = wipe σ vs)
    (ht : ∀ (i : Nat) c H1, Ex H H1 → z[i]? = some c → EvT t ((wipe σ vs).set j (some (.str (S [c])))) H1 (f c)) (he : ∀ (i : Nat) c H1, Ex H H1 → z[i]? = some c → f c = true → Er K te ((wipe σ vs).set j (some (.str (S [c])))) H1 (.v (g c))) :
    Er K (tLc (iStr tl) (gName j) t te vs) σ H (.n ((z.filter f).map g)) :=
  er_lcS (z := S z) f g h (by rw [S_len]; exact hz) hw ht he
/-- an if without else whose branch always leaves, behind it the rest -/
theorem q_leave {b : Bool} (h : EvT t σ H b) (h1 : b = true → ∀ H1, Ex H H1 → tu { D with nx := tz D } σ H1) (h2 : b = false → ∀ H1, Ex H H1 → tz D σ H1) : tSeq (tIfS t tu tNext) tz D σ H := q_when h h1 h2
end

/-! ### tests that carry K -/
def Et (_K : PySem.W.Frag) (t : TT) (σ : L2.St) (H : Hp) (b : Bool) : Prop := EvT t σ H b
section
variable {K : PySem.W.Frag} {σ : L2.St} {H H' : Hp} {te ta tb : TE} {t u : TT} {a b : Bool} {d : Dd} {D : Ends} {tu tw tz : TS} {x y : V}
theorem et1 (h : Er K te σ H (.b b)) : Et K (tTest te) σ H b := et_t h
theorem et2 (h : Er K te σ H (.b b)) : Et K (tB te) σ H b := et_v h
theorem et_an (h1 : Et K t σ H a) (h2 : a = true → Et K u σ H b) : Et K (tAnd t u) σ H (a && b) := et_and h1 h2
theorem et_orr (h1 : Et K t σ H a) (h2 : a = false → Et K u σ H b) : Et K (tOr t u) σ H (a || b) := et_or h1 h2
theorem et_nt (h1 : Et K t σ H a) : Et K (tNot t) σ H (!a) := et_not h1
theorem Et.to (h : Et K t σ H a) (e : a = b) : Et K t σ H b := e ▸ h
theorem er_iff (h : Et K t σ H b) (h1 : b = true → Er K ta σ H d) (h2 : b = false → Er K tb σ H d) : Er K (tIf t ta tb) σ H d := er_if h h1 h2
/-- a if t else b, two values of one kind -/
theorem er_ite {xa xb : V} (h : Et K t σ H b) (h1 : b = true → Er K ta σ H (.v xa)) (h2 : b = false → Er K tb σ H (.v xb)) : Er K (tIf t ta tb) σ H (.v (if b = true then xa else xb)) := er_if h (fun hb => by rw [if_pos hb]; exact h1 hb) (fun hb => by rw [if_neg (by rw [hb]; exact Bool.false_ne_true)]; exact h2 hb)
theorem a_when (h : Et K t σ H b) (h1 : b = true → ∀ H1, Ex H H1 → tu { D with nx := tz D } σ H1) (h2 : b = false → ∀ H1, Ex H H1 → tz D σ H1) : tSeq (tIfS t tu tNext) tz D σ H := q_when h h1 h2
theorem a_when1 (h : Et K t σ H b) (h1 : b = true → ∀ H1, Ex H H1 → tu D σ H1) (h2 : b = false → ∀ H1, Ex H H1 → D.nx σ H1) : tIfS t tu tNext D σ H := s_when h h1 h2
theorem a_if (h : Et K t σ H b) (h1 : b = true → ∀ H1, Ex H H1 → tu { D with nx := tz D } σ H1) (h2 : b = false → ∀ H1, Ex H H1 → tw { D with nx := tz D } σ H1) : tSeq (tIfS t tu tw) tz D σ H := q_if h h1 h2
theorem a_if1 (h : Et K t σ H b) (h1 : b = true → ∀ H1, Ex H H1 → tu D σ H1) (h2 : b = false → ∀ H1, Ex H H1 → tw D σ H1) : tIfS t tu tw D σ H := s_if h h1 h2
/-- if c: x = e: told by what x holds behind it -/
theorem a_ifAsg {i : Nat} (h : Et K t σ H b) (h1 : b = true → Er K te σ H (.v x)) (h2 : b = false → σ.set i (some x) = σ) (k : ∀ H1, Ex H H1 → tz D (σ.set i (some x)) H1) : tSeq (tIfS t (tAsg te (gName i)) tNext) tz D σ H :=
  a_when h (fun hb H1 e1 => a_asg1 (D := { D with nx := tz D }) ((h1 hb).mono e1) fun v H2 e2 z => by
    have ez : v = x := z
    subst ez
    exact k H2 (e1.trans e2)) (fun hb H1 e1 => by
    have g := k H1 e1
    rw [h2 hb] at g
    exact g)
end
theorem filt_true {α : Type} (l : List α) : l.filter (fun _ => true) = l := List.filter_eq_self.mpr fun _ _ => rfl
theorem c_lcZ' {K : PySem.W.Frag} {σ : L2.St} {H : Hp} {te : TE} {ta : TA} {one two : List Nat} {j1 j2 : Nat} {vs : List Nat} (g : Nat × Nat → V) (h : Era K ta σ H [.s (S one), .s (S two)]) (hz : one.length ≤ 40000) (hw : ∀ x y, wipe (((wipe σ vs).set j1 (some x)).set j2 (some y)) vs = wipe σ vs)
    (he : ∀ (i : Nat) c1 c2 H1, Ex H H1 → one[i]? = some c1 → two[i]? = some c2 → Er K te (((wipe σ vs).set j1 (some (.str (S [c1])))).set j2 (some (.str (S [c2])))) H1 (.v (g (c1, c2)))) :
    Er K (tLc (iZipS ta) (gTup K 2 (gCons (gName j1) (gCons (gName j2) gNil))) tYes te vs) σ H (.n ((one.zip two).map g)) := by
  have := c_lcZ (K := K) (t := tYes) (te := te) (fun _ => true) g h hz hw (fun i c1 c2 H1 _ _ _ => fun H2 e Q q => q H2 (Ex.refl _)) (fun i c1 c2 H1 e h1 h2 _ => he i c1 c2 H1 e h1 h2)
  rwa [filt_true] at this
theorem c_lcE' {K : PySem.W.Frag} {σ : L2.St} {H : Hp} {te : TE} {ta : TA} {z : List Nat} {j1 j2 : Nat} {vs : List Nat} (g : Nat × Nat → V) (h : Era K ta σ H [.s (S z)]) (hz : z.length ≤ 40000) (hw : ∀ x y, wipe (((wipe σ vs).set j1 (some x)).set j2 (some y)) vs = wipe σ vs)
    (he : ∀ (i : Nat) c H1, Ex H H1 → z[i]? = some c → Er K te (((wipe σ vs).set j1 (some (.int (i : Int)))).set j2 (some (.str (S [c])))) H1 (.v (g (c, i)))) :
    Er K (tLc (iEnumS ta) (gTup K 2 (gCons (gName j1) (gCons (gName j2) gNil))) tYes te vs) σ H (.n (z.zipIdx.map g)) := by
  have := c_lcE (K := K) (t := tYes) (te := te) (fun _ => true) g h hz hw (fun i c H1 _ _ => fun H2 e Q q => q H2 (Ex.refl _)) (fun i c H1 e h1 _ => he i c H1 e h1)
  rwa [filt_true] at this
theorem c_lcS' {K : PySem.W.Frag} {σ : L2.St} {H : Hp} {te tl : TE} {z : List Nat} {j : Nat} {vs : List Nat} (g : Nat → V) (h : Er K tl σ H (.s (S z))) (hz : z.length ≤ 40000) (hw : ∀ x, wipe ((wipe σ vs).set j (some x)) vs = wipe σ vs)
    (he : ∀ (i : Nat) c H1, Ex H H1 → z[i]? = some c → Er K te ((wipe σ vs).set j (some (.str (S [c])))) H1 (.v (g c))) :
    Er K (tLc (iStr tl) (gName j) tYes te vs) σ H (.n (z.map g)) := by
  have := c_lcS (K := K) (t := tYes) (te := te) (fun _ => true) g h hz hw (fun i c H1 _ _ => fun H2 e Q q => q H2 (Ex.refl _)) (fun i c H1 e h1 _ => he i c H1 e h1)
  rwa [filt_true] at this
theorem er_lcR' {K : PySem.W.Frag} {σ : L2.St} {H : Hp} {te : TE} {ta : TA} {n j : Nat} {vs : List Nat} (g : Nat → V) (h : Era K ta σ H [.v (.int (n : Int))]) (hn : n ≤ 40000) (hw : ∀ x, wipe ((wipe σ vs).set j (some x)) vs = wipe σ vs)
    (he : ∀ i H1, Ex H H1 → i < n → Er K te ((wipe σ vs).set j (some (.int (i : Int)))) H1 (.v (g i))) :
    Er K (tLc (iRng1 ta) (gName j) tYes te vs) σ H (.n ((List.range n).map g)) := by
  have := er_lcR (K := K) (t := tYes) (te := te) (fun _ => true) g h hn hw (fun i H1 _ _ => fun H2 e Q q => q H2 (Ex.refl _)) (fun i H1 e h1 _ => he i H1 e h1)
  rwa [filt_true] at this

/-- a written text by its codes -/
theorem pe_strS {X : Cx} {x : Str} {j : Nat} {pos : Pos} (l : List Nat) (h : x = S l) : PE X (.Constant (.str x) j pos) (tC (.str (S l))) := by
  rw [← h]
  exact pe_str
/-- an if-elif chain's join is left to the reader -/
theorem Er.ofv {K : PySem.W.Frag} {te : TE} {σ : L2.St} {H : Hp} {x y : V} (h : Er K te σ H (.v x)) (e : x = y) : Er K te σ H (.v y) := e ▸ h
example : (("-abc" : Str) = S [45, 97, 98, 99]) := by decide +kernel
example : (("-abc" : Str) = S [45, 97, 98, 99]) := by rfl

section
variable {K : PySem.W.Frag} {σ : L2.St} {H H0 H' : Hp} {te ta tb : TE} {t u : TT} {a b : Bool} {d d' : Dd} {D : Ends} {tu tw tz : TS} {x y : V}
theorem a_rete (h : Er K te σ H d) (hd : d = d') (e0 : Ex H0 H) (hk : ∀ v H', Ex H0 H' → Is K H' d' v → D.rt v H') : tRet te D σ H := a_ret h fun v H1 e z => hk v H1 (e0.trans e) (hd ▸ z)
theorem a_setv {i : Nat} (h : Er K te σ H (.v x)) (k : ∀ H1, Ex H H1 → tz D (σ.set i (some x)) H1) : tSeq (tAsg te (gName i)) tz D σ H := a_asg h fun v H1 e z => by
  have ez : v = x := z
  subst ez
  exact k H1 e
theorem a_setv1 {i : Nat} (h : Er K te σ H (.v x)) (k : ∀ H1, Ex H H1 → D.nx (σ.set i (some x)) H1) : tAsg te (gName i) D σ H := a_asg1 h fun v H1 e z => by
  have ez : v = x := z
  subst ez
  exact k H1 e
end
theorem inV_int (i : Int) (cs : List Int) : inV (.int i) (vis cs) = decide (i ∈ cs) := by
  unfold inV vis
  rw [List.any_map, Bool.eq_iff_iff, List.any_eq_true]
  simp only [Function.comp_apply, decide_eq_true_eq]
  constructor
  · rintro ⟨x, hx, h⟩
    have e : x = i := by simpa [eqV] using h
    exact e ▸ hx
  · intro h
    exact ⟨i, h, by simp [eqV]⟩
theorem flat_vis (cs : List Int) : (vis cs).all flatV = true := by
  rw [List.all_eq_true]
  intro x hx
  obtain ⟨n, _, rfl⟩ := List.mem_map.mp hx
  rfl
theorem replC (a : List Nat) (b c : Nat) : Txt.replace (S a) (S [b]) (S [c]) = S (a.map fun x => if x = b then c else x) := str_ext (by
  rw [StrLaws.replace_list (by rw [S_len]; exact Nat.le_refl 1)]
  exact replL_one b c a)
section
variable {K : PySem.W.Frag}
theorem ro_inLi {i : Int} {cs : List Int} : Ro K (rIn K false) (.v (.int i)) (.l (vis cs)) (.b (decide (i ∈ cs))) := by
  have h := ro_inL (K := K) (neg := false) (x := .int i) (xs := vis cs) rfl (flat_vis cs)
  rw [if_neg Bool.false_ne_true, inV_int] at h
  exact h
theorem ro_inNi {i : Int} {cs : List Int} : Ro K (rIn K false) (.v (.int i)) (.n (vis cs)) (.b (decide (i ∈ cs))) := fun v w H1 a b => ro_inLi v w H1 a b.n2l
theorem ro_inUi {i : Int} {cs : List Int} : Ro K (rIn K false) (.v (.int i)) (.u (vis cs)) (.b (decide (i ∈ cs))) := by
  have h := ro_inU (K := K) (neg := false) (x := .int i) (xs := vis cs) rfl (flat_vis cs)
  rw [if_neg Bool.false_ne_true, inV_int] at h
  exact h
end

/-! ### rules that name K (for use within a comprehension) -/
section
variable {X : Cx} {K : PySem.W.Frag}
theorem op_in_k (h : X.K = K := by rfl) : OpR X (compareOp .In) (rIn K false) := h ▸ op_in_seq
theorem op_notIn_k (h : X.K = K := by rfl) : OpR X (compareOp .NotIn) (rIn K true) := h ▸ op_notIn_seq
theorem op_eqD_k (hu : X.A.units + 64 < cLine) (h : X.K = K := by rfl) : OpR X (compareOp .Eq) (rEqD K) := h ▸ op_eqD hu
theorem op_neD_k (hu : X.A.units + 64 < cLine) (h : X.K = K := by rfl) : OpR X (compareOp .NotEq) (rNeD K) := h ▸ op_neD hu
theorem ix_list_k (h : X.K = K := by rfl) : IxR X (rIxL K) := h ▸ ix_list
theorem ix_tup_k (h : X.K = K := by rfl) : IxR X (rIxT K) := h ▸ ix_tup
theorem sl_list_k (h : X.K = K := by rfl) : SlR X (rSlL K) := h ▸ sl_list
theorem cr_len_k (h : X.K = K := by rfl) : CallR X (.builtin "len") (rLenS K) := h ▸ cr_len
theorem cr_list_k (h : X.K = K := by rfl) : CallR X (.type "list") (rListS K) := h ▸ cr_list
theorem cr_tuple_k (h : X.K = K := by rfl) : CallR X (.type "tuple") (rTupS K) := h ▸ cr_tuple
theorem cr_isi_k (h : X.K = K := by rfl) : CallR X (.builtin "isinstance") (rIsi K) := h ▸ cr_isi
theorem mt_join_k (h : X.K = K := by rfl) : MtR X "str.join" (rJoin K) := h ▸ mt_joinN
theorem mt_count_k (h : X.K = K := by rfl) : MtR X "list.count" (rCntS K) := h ▸ mt_scount
theorem pi_list_k {tg l : Expr} {tl : TE} (h : PE X l tl) (hK : X.K = K := by rfl) : PI X tg l (iList K tl) := hK ▸ pi_list h
theorem pi_tup_k {tg l : Expr} {tl : TE} (h : PE X l tl) (hK : X.K = K := by rfl) : PI X tg l (iTup K tl) := hK ▸ pi_tup h
theorem pe_bm_k {o e : Expr} {es : List Expr} {to : TE} {t : TA} {name : Str} {apos cpos : Pos} {T id : String} {r : V → List V → Hp → VK → Prop} (pa : PlainAttrs T) (slot : Slot T name id) (hty : typeOf (.builtin id) = pure (.type "method_descriptor")) (hm : MtR X id r) (ho : PE X o to) (ha : PA X (e :: es) t)
    (hK : X.K = K := by rfl) (hbase : attributeBase o name X.env (eval o X.env) = eval o X.env := by rfl)
    (hfew : ((backTo cpos (starEach (e :: es) X.env)).all (fun x => !x.1) && (backToKw cpos (keywordEach [] X.env)).all (fun x => x.1.isSome)
      && decide ((e :: es).length + ([] : List Keyword).length + (if ([] : List Keyword).isEmpty then 0 else 1) < 30)) = true := by rfl)
    (hline : (apos.endLine == cpos.line) = true := by rfl) (hs : starEach (e :: es) X.env = (false, eval e X.env) :: starEach es X.env := by rfl) (hplain : (backTo cpos (starEach es X.env)).any (·.1) = false := by rfl) :
    PE X (.Call (.Attribute o name apos) (e :: es) [] cpos) (tBM K T r to t) := hK ▸ pe_bm pa slot hty hm ho ha hbase hfew hline hs hplain
end

theorem ro_1018 {K : PySem.W.Frag} : Ro K (rI CPow fun i j => .int (i ^ j.toNat)) (.v (.int 10)) (.v (.int 18)) (.v (.int 1000000000000000000)) := ro_I (K := K) (C := CPow) (g := fun i j => .int (i ^ j.toNat)) (i := 10) (j := 18) ⟨by decide, by decide, by decide⟩
theorem getD_vis {ns : List Int} {j : Nat} (h : j < ns.length) : (vis ns).getD j .non = .int (ns.getD j 0) := by
  rw [List.getD_eq_getElem?_getD, List.getD_eq_getElem?_getD, List.getElem?_map, List.getElem?_eq_getElem h]
  rfl
theorem vis_at {ns : List Int} {i : Nat} {x : V} (h : (vis ns)[i]? = some x) : ∃ n, ns[i]? = some n ∧ V.int n = x := by
  rw [List.getElem?_map] at h
  cases q : ns[i]? with
  | none => rw [q] at h; cases h
  | some n => rw [q] at h; exact ⟨n, rfl, Option.some.inj h⟩
theorem map_take_next {α β : Type} {l : List α} {f : α → β} {i : Nat} {x : α} (h : l[i]? = some x) : (l.take (i + 1)).map f = (l.take i).map f ++ [f x] := by
  rw [List.take_add_one, h, List.map_append]
  rfl
theorem zipIdx_at {α : Type} {l : List α} {i : Nat} {x : α} (h : l[i]? = some x) : l.zipIdx[i]? = some (x, i) := by
  rw [List.getElem?_zipIdx, h]
  simp

theorem vis_app (a : List Int) (n : Int) : vis (a ++ [n]) = vis a ++ [.int n] := by
  rw [vis, List.map_append]
  rfl
theorem vss_app (a : List Str) (n : Str) : vss (a ++ [n]) = vss a ++ [.str n] := by
  rw [vss, List.map_append]
  rfl

section
variable {K : PySem.W.Frag} {σ : L2.St} {H : Hp} {te ta tb tc : TE} {x y : V} {b : Bool}
/-- [x, y][int(b)] -/
theorem er_pick (h1 : Er K ta σ H (.v x)) (h2 : Er K tb σ H (.v y)) (hb : Er K tc σ H (.b b)) : Er K (tOp (rIxL K) (tLst (tCons ta (tCons tb tNil))) (tCB rInt1 (tCons tc tNil))) σ H (.v (if b = true then y else x)) := by
  refine er_op (d1 := .n [x, y]) (d2 := .i (if b then 1 else 0)) (er_lst (vs := [x, y]) (era_cons h1 (era_cons h2 era_nil)) (by simp)) (er_cb (era_cons hb era_nil) rc_intB) ?_
  cases b with
  | true => exact ro_ixN (by decide) rfl
  | false => exact ro_ixN (by decide) rfl
end
theorem cutS_to (l : List Nat) (n : Nat) : cutS (S l) none (some (n : Int)) = S (l.take n) := by
  unfold cutS
  rw [HT.sIx_none, HT.sIx_nat]
  show S _ = S _
  congr 1
  rw [List.drop_zero, S_list, S_len, Nat.sub_zero, List.take_eq_take_iff]
  omega
theorem cutS_from (l : List Nat) (n : Nat) : cutS (S l) (some (n : Int)) none = S (l.drop n) := by
  unfold cutS
  rw [HT.sIx_none, HT.sIx_nat, S_len, S_list]
  show S _ = S _
  congr 1
  by_cases h : n ≤ l.length
  · rw [Nat.min_eq_left h, List.take_of_length_le (by rw [List.length_drop]; exact Nat.le_refl _)]
  · rw [Nat.min_eq_right (by omega), List.drop_of_length_le (by omega : l.length ≤ n), List.drop_length]
    simp
theorem cutV_from (l : List V) (n : Nat) : cutV l (some (n : Int)) none = l.drop n := by
  unfold cutV
  rw [HT.sIx_none, HT.sIx_nat]
  by_cases h : n ≤ l.length
  · rw [Nat.min_eq_left h, List.take_of_length_le (by rw [List.length_drop]; exact Nat.le_refl _)]
  · rw [Nat.min_eq_right (by omega), List.drop_of_length_le (by omega : l.length ≤ n), List.drop_length]
    simp
theorem cutV_mid (l : List V) (n m : Nat) (h : n ≤ m) (hm : m ≤ l.length) : cutV l (some (n : Int)) (some (m : Int)) = (l.drop n).take (m - n) := by
  unfold cutV
  simp only [HT.sIx_nat, Nat.min_eq_left hm, Nat.min_eq_left (Nat.le_trans h hm)]
section
variable {K : PySem.W.Frag} {σ : L2.St} {H : Hp} {te ta tb : TE}
theorem er_slTo {l : List Nat} {n : Nat} (h : Er K te σ H (.s (S l))) (hz : l.length ≤ 100000) (h2 : Er K tb σ H (.i (n : Int))) : Er K (tSl rSlS te tNoPart (tPart tb)) σ H (.s (S (l.take n))) := by
  rw [← cutS_to]
  exact er_slS h (by rw [S_len]; exact hz) eo_non (eo_of h2)
theorem er_slFrom {l : List Nat} {n : Nat} (h : Er K te σ H (.s (S l))) (hz : l.length ≤ 100000) (h2 : Er K tb σ H (.i (n : Int))) : Er K (tSl rSlS te (tPart tb) tNoPart) σ H (.s (S (l.drop n))) := by
  rw [← cutS_from]
  exact er_slS h (by rw [S_len]; exact hz) (eo_of h2) eo_non
theorem vis_drop (ns : List Int) (n : Nat) : (vis ns).drop n = vis (ns.drop n) := by rw [vis, ← List.map_drop]
theorem vis_take (ns : List Int) (n : Nat) : (vis ns).take n = vis (ns.take n) := by rw [vis, ← List.map_take]
theorem er_slvFrom {ns : List Int} {n : Nat} (h : Er K te σ H (.l (vis ns))) (h2 : Er K tb σ H (.i (n : Int))) : Er K (tSl (rSlL K) te (tPart tb) tNoPart) σ H (.n (vis (ns.drop n))) := by
  rw [← vis_drop, ← cutV_from]
  exact er_slL h (eo_of h2) eo_non
theorem er_slvMid {ns : List Int} {n m : Nat} (h : Er K te σ H (.l (vis ns))) (h1 : Er K ta σ H (.i (n : Int))) (h2 : Er K tb σ H (.i (m : Int))) (hnm : n ≤ m) (hm : m ≤ ns.length) : Er K (tSl (rSlL K) te (tPart ta) (tPart tb)) σ H (.n (vis ((ns.drop n).take (m - n)))) := by
  rw [← vis_take, ← vis_drop, ← cutV_mid _ _ _ hnm (by rw [List.length_map]; exact hm)]
  exact er_slL h (eo_of h1) (eo_of h2)
end
end Mi

set_option maxHeartbeats 2000000
namespace Mi
open PySem PySem.Spec PyProof.Rows L2 Evl
section
variable {K : PySem.W.Frag} {σ : L2.St} {H H0 H' : Hp} {te ta tb : TE} {t u : TT} {a b : Bool} {d d' : Dd} {D : Ends} {tu tw tz : TS} {x y : V}
/-- if c: x = e, over texts of one sign -/
theorem a_ifSetC {i c e : Nat} (h : Et K t σ H b) (h1 : b = true → Er K te σ H (.s (S [c]))) (h2 : σ.set i (some (.str (S [e]))) = σ) (k : ∀ H1, Ex H H1 → tz D (σ.set i (some (.str (S [if b = true then c else e])))) H1) : tSeq (tIfS t (tAsg te (gName i)) tNext) tz D σ H :=
  a_ifAsg (x := .str (S [if b = true then c else e])) h (fun hb => by rw [if_pos hb]; exact h1 hb) (fun hb => by rw [if_neg (by rw [hb]; exact Bool.false_ne_true)]; exact h2) k
theorem er_pickC {c e : Nat} (h1 : Er K ta σ H (.s (S [c]))) (h2 : Er K tb σ H (.s (S [e]))) (hb : Er K te σ H (.b b)) : Er K (tOp (rIxL K) (tLst (tCons ta (tCons tb tNil))) (tCB rInt1 (tCons te tNil))) σ H (.s (S [if b = true then e else c])) := by
  have h := er_pick h1 h2 hb
  have e0 : (if b = true then V.str (S [e]) else V.str (S [c])) = V.str (S [if b = true then e else c]) := by cases b <;> rfl
  rw [e0] at h
  exact h
end
end Mi

set_option maxHeartbeats 4000000
namespace Mi
open PySem PySem.Spec PyProof.Rows L2 Evl PySem.W

/-! ### an object of ours that was not tracked is tracked from here on -/
theorem inv_track {X : Cx} {pins : List (Addr × Obj)} {σ : L2.St} {H : Hp} {s : Shared} {hp : Heap} {tn : Nat} {ch : List Addr} {T : Addr} {ob : HO} (I : Inv X pins σ H s) (kp : ∀ b o, b ∉ ch → s.heap.get? b = some o → hp.get? b = some o) (ok : ∀ b ∈ ch, FpOk X pins H b) (hT : T ∈ ch)
    (new : ObjOk X.prog X.w (upd H T ob) hp T ob) : Inv X pins σ (upd H T ob) { s with heap := hp, toks := tn } := by
  have hN : H T = none := (ok T hT).1
  have away : ∀ b u, H b = some u → b ∉ ch := fun b u e z => by
    rw [(ok b z).1] at e
    cases e
  have same : ∀ {b u}, H b = some u → upd H T ob b = some u := fun {b u} e => by
    have hb : b ≠ T := fun z => by rw [z, hN] at e; cases e
    rw [upd_ne hb]
    exact e
  refine I.step (ch := ch) ?a1 ?a2 ?a3 ?a4 ?a5 ?a6 ?a7 ?a8 ?a9 ?b1 I.bare
  case a1 => exact fun b hb => ⟨(ok b hb).2.2.2.1, (ok b hb).2.1, (ok b hb).2.2.2.2.1, (ok b hb).2.2.2.2.2⟩
  case a2 => exact fun b o _ _ hc e _ => kp b o hc e
  case a3 => exact fun b o _ _ hc e _ => ⟨o.slots, kp b o hc e⟩
  case a4 =>
    intro b o hc e n
    have hb : b ≠ T := by
      rintro rfl
      exact hc hT
    rw [upd_ne hb]
    exact n
  case a5 => exact fun b o hc e => ⟨o, kp b o hc e⟩
  case a6 => exact fun b xs e => same e
  case a7 => exact fun b o u e => same e
  case a8 =>
    intro b ps e
    refine ⟨#[], ?_⟩
    rw [same e]
    simp
  case a9 =>
    rintro m ⟨o, es, ep, ho, r⟩
    exact ⟨o, es, ep, kp _ o (fun z => (ok _ z).2.1 rfl) ho, r⟩
  case b1 =>
    intro b u e
    by_cases hb : b = T
    · subst hb
      rw [upd_same] at e
      cases e
      exact new
    · rw [upd_ne hb] at e
      refine (I.hok b u e).stay (fun c v hc z => kp c v ?_ z) (fun c z => same z) fun c xs z => same z
      rcases hc with z | z
      · exact z ▸ away b u e
      · exact away c _ z

/-! ### sorted by a def that answers its text -/
abbrev spId (K : PySem.W.Frag) : Sp := spR K (fun _ : List Nat => True) (fun a => [.s (S a)]) fun a => .s (S a)
def ordd (b : Bool) (ys : List (List Nat)) : List (List Nat) := ys.mergeSort (if b = true then fun x y => decide (y ≤ x) else fun x y => decide (x ≤ y))
def IsT (u : Value) (z : List Nat) : Prop := ∃ t, u = .str (S z) t
theorem each_of_vals : ∀ {ys : List (List Nat)} {us : List Value}, Vals (vss (ys.map S)) us → EachIs IsT us ys
  | [], _, h => by cases h; exact .nil
  | z :: r, _, h => by
    cases h with
    | cons a b => exact .cons a (each_of_vals b)
theorem vals_of_each : ∀ {us : List Value} {ys : List (List Nat)}, EachIs IsT us ys → Vals (vss (ys.map S)) us
  | _, _, .nil => .nil
  | _, _, .cons a b => .cons a (vals_of_each b)
theorem each_more {u : Value} {z : List Nat} (hu : IsT u z) : ∀ {us : List Value} {ys : List (List Nat)}, EachIs IsT us ys → EachIs IsT (us ++ [u]) (ys ++ [z])
  | _, _, .nil => .cons hu .nil
  | _, _, .cons a b => .cons a (each_more hu b)
theorem reads_of_each {hp : Heap} {us : List Value} {ys : List (List Nat)} (h : EachIs IsT us ys) : EachIs (fun v d => ∃ as, Reads hp v d as) us (ys.map fun z => PyData.str (S z)) := by
  induction h with
  | nil => exact .nil
  | cons a b ih =>
    obtain ⟨t, rfl⟩ := a
    exact .cons ⟨[], .str _ t⟩ ih
theorem dataLe_S (b : Bool) : dataLe b (fun z : List Nat => PyData.str (S z)) = if b = true then fun x y => decide (y ≤ x) else fun x y => decide (x ≤ y) := by
  cases b
  · rw [dataLe_str]; rfl
  · rw [dataGe_str]; rfl
/-- the heap without the object at k -/
def less (hp : Heap) (k : Addr) : Heap := hp.update k fun o => { o with data := .freed }
theorem less_at {hp : Heap} {k : Addr} {o : Obj} (h : hp.get? k = some o) : (less hp k).get? k = none := by
  cases hp with
  | mk objs l =>
    unfold less Heap.update Heap.get?
    simp only [Array.getElem?_modify, if_true]
    cases e : objs[k]? with
    | none => rfl
    | some q => rfl
theorem less_ne {hp : Heap} {k c : Addr} (h : c ≠ k) : (less hp k).get? c = hp.get? c := by
  unfold less
  rw [Heap.get?_update_ne _ _ _ _ h]
theorem each_at : ∀ {us : List Value} {ys : List (List Nat)} {i : Nat} {u : Value}, EachIs IsT us ys → us[i]? = some u → ∃ z, ys[i]? = some z ∧ IsT u z
  | [], _, _, _, _, h => by simp at h
  | _ :: _, _, 0, _, e, h => by
    cases e with
    | cons a b => exact ⟨_, rfl, Option.some.inj h ▸ a⟩
  | _ :: _, _, i + 1, _, e, h => by
    cases e with
    | cons a b => exact each_at (i := i) b h
theorem sorted_def {X : Cx} {k : Nat} {f : Addr} {fd : FuncData} {pn : Str} {b : Bool} {kw : List (Str × Value)} {pins : List (Addr × Obj)} {s : Shared} {σ : L2.St} {H : Hp} {a : Addr} {ys : List (List Nat)} {Q : VK}
    (F : FnOk X.prog X.w X.K X.mg X.base CX0 k f fd [pn] (spId X.K)) (hb : Binds X.K fd [pn] []) (hr : Room (k + 2) X.A) (I : Inv X pins σ H s) (hs : SqL X.K H a (vss (ys.map S)))
    (ha1 : argsOk "sorted" ⟨[.ref a], kw⟩) (ha2 : ∀ x, argsOk "list.sort" ⟨[.ref x], kw⟩) (ht : ∀ x, Builtin.«list.sort» ⟨[.ref x], kw⟩ = ksk_tree x (.ref f) b)
    (q : ∀ H2 p, Ex H H2 → H2 p = none → Q (.ref p) (upd H2 p (.lst (vss ((ordd b ys).map S))))) :
    wpAny (model X.prog X.w) X.A (call (.builtin "sorted") [.ref a] kw) (EP X pins σ Q) X.xe s := by
  obtain ⟨its, rv, hl, hz⟩ := I.list hs
  have hev := each_of_vals rv
  have hle : its.length = ys.length := hev.length
  have hZ : its.length ≤ sizeLine := by rw [← rv.length]; exact hz
  have un : X.A.in1.in1.units < cLine := by
    have h := hr.un
    show X.A.units + 1 + 1 < cLine
    omega
  have hr2 : Room k X.A.in1.in1 := (Room.in1 (show Room (k + 1 + 1) X.A from hr)).in1
  refine sorted_of_sort hl.isList hZ ha1 ha2 fun E' => ?_
  rw [ht]
  have hD := copyHeap_at s.heap its
  generalize eD : s.heap.objs.size + 1 = D at hD ⊢
  have hDs : D < (copyHeap s.heap its).objs.size := Heap.lt_size hD
  obtain ⟨e1, hD1⟩ : ∃ e1, ((copyHeap s.heap its).update D (Obj.mapSeq fun _ => (#[] : Array Value))).get? D = some (seqObj "list" #[] e1) := ⟨_, get?_update_seq hD fun _ => #[]⟩
  unfold ksk_tree
  refine wpAny_bind (listItems_at (s := { s with heap := copyHeap s.heap its }) hD rfl ?_)
  refine wpAny_bind (listUpdate_at (s := { s with heap := copyHeap s.heap its }) hD rfl ?_ (by rw [List.size_toArray]; exact hZ) (Nat.zero_le _))
  refine wpAny_bind (seqEpoch_at (s := { s with heap := (copyHeap s.heap its).update D (Obj.mapSeq fun _ => (#[] : Array Value)) }) hD1 rfl ?_)
  refine wpAny_bind (wpAny_newTuple ?_ (show its.length ≤ _ from hZ))
  refine wpAny_bind (wpAny_newList ?_ (Nat.zero_le _))
  refine wpAny_holding ?_
  have oldC : ∀ c o, s.heap.get? c = some o → c ≠ D ∧ (copyHeap s.heap its).get? c = some o := fun c o e => ⟨fun z => by
    have h1 : c < s.heap.objs.size := Heap.lt_size e
    rw [z, ← eD] at h1
    exact absurd h1 (Nat.not_lt.mpr (Nat.le_succ _)), copyHeap_old e⟩
  have dge : s.heap.objs.size ≤ D := Nat.le_of_succ_le (Nat.le_of_eq eD)
  have szK : (((copyHeap s.heap its).update D (Obj.mapSeq fun _ => (#[] : Array Value))).push (seqObj "tuple" its.toArray 0)).objs.size = (copyHeap s.heap its).objs.size + 1 := by rw [size_push', Heap.size_update]
  have hK : ((((copyHeap s.heap its).update D (Obj.mapSeq fun _ => (#[] : Array Value))).push (seqObj "tuple" its.toArray 0)).push (seqObj "list" #[] 0)).get? (((copyHeap s.heap its).update D (Obj.mapSeq fun _ => (#[] : Array Value))).push (seqObj "tuple" its.toArray 0)).objs.size = some (seqObj "list" #[] 0) := Heap.get?_push_size _ rfl
  have hD2 : ((((copyHeap s.heap its).update D (Obj.mapSeq fun _ => (#[] : Array Value))).push (seqObj "tuple" its.toArray 0)).push (seqObj "list" #[] 0)).get? D = some (seqObj "list" #[] e1) := Heap.get?_push_of_some _ (Heap.get?_push_of_some _ hD1)
  have old2 : ∀ c o, s.heap.get? c = some o → ((((copyHeap s.heap its).update D (Obj.mapSeq fun _ => (#[] : Array Value))).push (seqObj "tuple" its.toArray 0)).push (seqObj "list" #[] 0)).get? c = some o := fun c o e => by
    obtain ⟨c1, c2⟩ := oldC c o e
    exact Heap.get?_push_of_some _ (Heap.get?_push_of_some _ ((Heap.get?_update_ne _ _ _ _ c1).trans c2))
  have hKge : s.heap.objs.size ≤ (((copyHeap s.heap its).update D (Obj.mapSeq fun _ => (#[] : Array Value))).push (seqObj "tuple" its.toArray 0)).objs.size := by rw [szK]; omega
  have hDK : D ≠ (((copyHeap s.heap its).update D (Obj.mapSeq fun _ => (#[] : Array Value))).push (seqObj "tuple" its.toArray 0)).objs.size := by rw [szK]; omega
  show wpAny _ _ (ksk_rest D (.ref f) b its.toArray e1 (.ref (((copyHeap s.heap its).update D (Obj.mapSeq fun _ => (#[] : Array Value))).push (seqObj "tuple" its.toArray 0)).objs.size)) _ _ { s with heap := ((((copyHeap s.heap its).update D (Obj.mapSeq fun _ => (#[] : Array Value))).push (seqObj "tuple" its.toArray 0)).push (seqObj "list" #[] 0)) }
  revert hK hD2 old2 hKge hDK
  generalize (((copyHeap s.heap its).update D (Obj.mapSeq fun _ => (#[] : Array Value))).push (seqObj "tuple" its.toArray 0)).objs.size = kS
  generalize ((((copyHeap s.heap its).update D (Obj.mapSeq fun _ => (#[] : Array Value))).push (seqObj "tuple" its.toArray 0)).push (seqObj "list" #[] 0)) = hh
  intro hK hD2 old2 hKge hDK
  have I2 : Inv X pins σ H { s with heap := hh } := I.kept (t' := s.toks) old2
  have hDge : s.heap.objs.size ≤ D := dge
  have fD : FpOk X pins H D := I.fpOk hDge (I.hok.fresh hDge)
  have fK : FpOk X pins H kS := I.fpOk hKge (I.hok.fresh hKge)
  have repin : ∀ {H' : Hp} {t : Shared} {kA : Array Value} {e : Nat}, Inv X pins σ H' t → t.heap.get? D = some (seqObj "list" #[] e1) → H' D = none → t.heap.get? kS = some (seqObj "list" kA e) → H' kS = none → Inv X (pins ++ [(D, seqObj "list" #[] e1), (kS, seqObj "list" kA e)]) σ H' t := by
    intro H' t kA e J d1 d2 k1 k2
    refine J.pins_of fun p hp => ?_
    rcases List.mem_append.mp hp with h | h
    · exact J.pin p (List.mem_append_right _ h)
    · rcases List.mem_cons.mp h with rfl | h
      · exact ⟨d1, d2, fD.2.1, fD.2.2.1, fun v => by simp [seqObj]⟩
      · rw [List.mem_singleton.mp h]
        exact ⟨k1, k2, fK.2.1, fK.2.2.1, fun v => by simp [seqObj]⟩
  unfold ksk_rest
  refine wpAny_bind (wpAny_rule ?_)
  first
    | rw [List.forIn_toArray]
    | (rw [← Array.forIn_toList]; simp only [List.toList_toArray])
    | rw [← Array.forIn_toList]
  refine wpAny_bind (ksk_fold (fun i t => ∃ H' kA e, Ex H H' ∧ Inv X (pins ++ [(D, seqObj "list" #[] e1), (kS, seqObj "list" kA e)]) σ H' t ∧ EachIs IsT kA.toList (ys.take i)) its 0 { s with heap := hh } ⟨H, #[], 0, Ex.refl H, repin I2 hD2 fD.1 hK fK.1, by rw [List.take_zero]; exact .nil⟩ ?turn ?over)
  case turn =>
    rintro j x t hx ⟨H', kA, e, hex, J, hk⟩
    simp only [Nat.zero_add] at hk ⊢
    obtain ⟨z, hz1, tz, rfl⟩ := each_at hev hx
    have hj : j < its.length := (List.getElem?_eq_some_iff.mp hx).1
    have hkz : kA.size ≤ its.length := by
      have h1 := hk.length
      rw [Array.length_toList, List.length_take] at h1
      omega
    have call1 : wpAny (model X.prog X.w) X.A.in1.in1 (call (.ref f) [.str (S z) tz]) (EP X (pins ++ [(D, seqObj "list" #[] e1), (kS, seqObj "list" kA e)]) σ fun v H2 => v = .str (S z) ∧ Ex H' H2) (fun _ _ => False) t := by
      have rx : Vals [V.str (S z)] [Value.str (S z) tz] := .cons ⟨tz, rfl⟩ .nil
      have hsp : spId X.K [V.str (S z)] H' (fun v H2 => v = .str (S z) ∧ Ex H' H2) E0 := ⟨z, trivial, .cons rfl .nil, fun v H2 ee hv => ⟨hv, ee⟩⟩
      have bd := hb t [.str (S z) tz] J.kIn rfl
      refine wpAny_call (codeAny_mono (F.run X.A.in1.in1 X.stack t H' ⟨[.str (S z) tz], []⟩ _ _ _ E0 hr2 J.env0.in1.in1 bd rx hsp) fun r t' hq => ?_)
      cases r with
      | error e => exact hq.elim
      | ok fl =>
        cases fl with
        | ret u => exact J.after hq
        | next => exact hq.elim
        | brk => exact hq.elim
        | cont => exact hq.elim
    refine wpAny_bind (wpAny_attempt (wpAny_mono call1 (fun u t2 hu => ?_) fun _ _ hF => False.elim hF))
    obtain ⟨v, H2, J2, ru, rfl, hex2⟩ := hu
    obtain ⟨tu, rfl⟩ := ru
    have pD := J2.pin (D, seqObj "list" #[] e1) (List.mem_append_right _ (List.mem_append_right _ (.head _)))
    have pK := J2.pin (kS, seqObj "list" kA e) (List.mem_append_right _ (List.mem_append_right _ (.tail _ (.head _))))
    try dsimp only
    obtain ⟨c2, hc2⟩ : ∃ c2, (t2.heap.update kS (Obj.mapSeq (·.push (.str (S z) tu)))).get? kS = some (seqObj "list" (kA.push (.str (S z) tu)) c2) := ⟨_, get?_update_seq pK.1 (·.push _)⟩
    have keepK : ∀ b o, b ∉ [kS] → t2.heap.get? b = some o → (t2.heap.update kS (Obj.mapSeq (·.push (.str (S z) tu)))).get? b = some o := fun b o hb ho => (Heap.get?_update_ne _ _ _ _ (fun z => hb (by rw [z]; exact .head _))).trans ho
    have hsz2 : (kA.push (.str (S z) tu)).size ≤ sizeLine + 1 := by
      rw [Array.size_push]
      omega
    refine wpAny_bind (listUpdate_at pK.1 rfl ?_ (by omega) hsz2)
    refine wpAny_pure ⟨rfl, H2, kA.push (.str (S z) tu), c2, hex.trans hex2, ?_, ?_⟩
    · refine repin (Inv.turnedL (t' := t2.toks) J2.unpinned keepK (fun b hb => ?_)) ?_ pD.2.1 hc2 pK.2.1
      · rw [List.mem_singleton.mp hb]
        exact ⟨pK.2.1, fK.2⟩
      · exact keepK D _ (fun h => hDK (List.mem_singleton.mp h)) pD.1
    · have ek : ys.take (j + 1) = ys.take j ++ [z] := by rw [List.take_add_one, hz1]; rfl
      rw [ek, Array.toList_push]
      exact each_more ⟨tu, rfl⟩ hk
  case over =>
    rintro t ⟨H', kA, e, hex, J, hk⟩
    have e3 : ys.take (0 + its.length) = ys := List.take_of_length_le (by omega)
    rw [e3] at hk
    have hsz : kA.size = its.length := by
      have h1 := hk.length
      rw [Array.length_toList] at h1
      omega
    have pD := J.pin (D, seqObj "list" #[] e1) (List.mem_append_right _ (List.mem_append_right _ (.head _)))
    have pK := J.pin (kS, seqObj "list" kA e) (List.mem_append_right _ (List.mem_append_right _ (.tail _ (.head _))))
    try dsimp only
    refine wpAny_bind (listItems_at pK.1 rfl ?_)
    have alk : AllAlike (ys.map fun z => PyData.str (S z)) := AllAlike.of fun _ _ => rfl
    have srt : Sortable (ys.map fun z => PyData.str (S z)) := Sortable.others fun z => ⟨by simp, fun xs => by simp⟩
    have dep : ∀ d, d ∈ ys.map (fun z => PyData.str (S z)) → X.A.in1.in1.units + d.depth < cLine := fun d hd => by
      obtain ⟨z, _, rfl⟩ := List.mem_map.mp hd
      show X.A.in1.in1.units + 0 < cLine
      omega
    have rd := reads_of_each (hp := t.heap) hk
    have kb : KeepsBut D (less t.heap kS) t.heap := fun c o hc ho => by
      have hck : c ≠ kS := fun z => by rw [z, less_at pK.1] at ho; cases ho
      rw [less_ne hck] at ho
      exact ho
    refine keyH_end (κ := dataKind t.heap (ys.map fun z => PyData.str (S z))) (h₁ := less t.heap kS) kb (less_at pK.1) pK.1 pD.1 (Ne.symm hDK) (SortsAt.data rd alk srt dep) hsz hZ fun h4 tk c k4 n4 => ⟨rfl, ?_⟩
    have out1 : EachIs IsT (sortVals (dataKind t.heap (ys.map fun z => PyData.str (S z))) b kA.toList its) (ys.mergeSort (dataLe b fun z => PyData.str (S z))) := keyedOut_each (rev := b) (fun z => PyData.str (S z)) ⟨t.heap, kA.toList, alk, rfl, rd⟩ hev
    rw [dataLe_S] at out1
    have keep4 : ∀ c o, c ∉ [kS, D] → t.heap.get? c = some o → h4.get? c = some o := fun c o hc ho => by
      refine k4 c o (fun z => hc (by rw [z]; simp)) ?_
      rw [less_ne (fun z => hc (by rw [z]; simp))]
      exact ho
    have hlen4 : (vss ((ordd b ys).map S)).length ≤ sizeLine := by
      unfold vss ordd
      rw [List.length_map, List.length_map, List.length_mergeSort]
      omega
    have J4 : Inv X pins σ (upd H' D (.lst (vss ((ordd b ys).map S)))) { t with heap := h4, toks := tk } := by
      refine inv_track J.unpinned keep4 (fun c hc => ?_) (by simp) ⟨hlen4, _, c, vals_of_each out1, n4⟩
      rcases List.mem_cons.mp hc with rfl | hc
      · exact ⟨pK.2.1, fK.2⟩
      · rw [List.mem_singleton.mp hc]
        exact ⟨pD.2.1, fD.2⟩
    exact ⟨.ref D, _, J4, rfl, q H' D hex pD.2.1⟩

/-- sorted(e, key=f[, reverse=True]), f a def of the text -/
def rSortD (K : PySem.W.Frag) (b : Bool) (vs : List V) (H : Hp) (Q : VK) : Prop := ∃ (a : Addr) (ys : List (List Nat)), vs = [.ref a] ∧ SqL K H a (vss (ys.map S)) ∧ ∀ H2 p, Ex H H2 → H2 p = none → Q (.ref p) (upd H2 p (.lst (vss ((ordd b ys).map S))))
def tSortD (K : PySem.W.Frag) (b : Bool) (t : TE) : TE := fun σ H Q => tCons t tNil σ H fun vs H1 => rSortD K b vs H1 Q
section
variable {X : Cx} {k : Nat} {x pn : Str} {p px pos k1 k2 : Pos} {e : Expr} {t : TE}
theorem pe_sortD (F : Has X.prog X.w X.K X.mg X.base k x [pn] (spId X.K)) (hr : Room (k + 2) X.A) (hg : Gl X "sorted") (hm : X.mg "sorted" = none) (hgx : Gl X x) (he : PA X [e] (tCons t tNil)) (hdb : (x == ("__debug__" : Str)) = false := by decide)
    (hs : backTo pos (starEach [e] X.env) = (false, eval e X.env) :: backTo pos (starEach [] X.env) := by rfl) (hpl : (backTo pos (starEach [e] X.env)).any (·.1) = false := by rfl)
    (hall : (backToKw pos (keywordEach [⟨some "key", .Name x px, k1⟩] X.env)).all (·.1.isSome) = true := by rfl) (hnone : (backToKw pos (keywordEach [⟨some "key", .Name x px, k1⟩] X.env)).any (·.1.isNone) = false := by rfl) (hks : (backToKw pos (keywordEach [⟨some "key", .Name x px, k1⟩] X.env)).filterMap (·.1) = [Str.ofString "key"] := by rfl) :
    PE X (.Call (.Name "sorted" p) [e] [⟨some "key", .Name x px, k1⟩] pos) (tSortD X.K false t) := by
  obtain ⟨f, fd, hmx, hk, F, hb, _⟩ := F.ex
  have hc : CallRK X (.builtin "sorted") [Str.ofString "key"] (fun vs zs H Q => zs = [.ref f] ∧ rSortD X.K false vs H Q) := by
    rintro pins s σ H vs zs us ws Q I r rz ⟨rfl, a, ys, rfl, hs, q⟩
    obtain rfl := Vals.ref1 r
    obtain ⟨w1, rfl, e1⟩ := vals1 rz
    obtain rfl : w1 = Value.ref f := e1
    exact sorted_def (b := false) F hb hr I hs (ksk_s1 _ _) (fun _ => ksk_l1 _ _) (fun x => ksk_t1 f x) q
  have P1 := pe_callBK (p := p) (pos := pos) hc hg hm (by rfl) he (pk_cons (pe_glob (pos := px) (v := .ref f) hgx hmx rfl hdb) pk_nil) (by decide) (by decide) hs hpl hall hnone hks
  refine ⟨fun pins s σ H Q I h => P1.run pins s σ H Q I ?_⟩
  show tCons t tNil σ H fun vs H1 => ([V.ref f] = [V.ref f]) ∧ rSortD X.K false vs H1 Q
  have e0 : (fun vs H1 => ([V.ref f] = [V.ref f]) ∧ rSortD X.K false vs H1 Q) = fun vs H1 => rSortD X.K false vs H1 Q := by
    funext vs H1
    simp
  rw [e0]
  exact h
theorem pe_sortDR (F : Has X.prog X.w X.K X.mg X.base k x [pn] (spId X.K)) (hr : Room (k + 2) X.A) (hg : Gl X "sorted") (hm : X.mg "sorted" = none) (hgx : Gl X x) (he : PA X [e] (tCons t tNil)) {pb : Pos} {kb : Nat} (hdb : (x == ("__debug__" : Str)) = false := by decide)
    (hs : backTo pos (starEach [e] X.env) = (false, eval e X.env) :: backTo pos (starEach [] X.env) := by rfl) (hpl : (backTo pos (starEach [e] X.env)).any (·.1) = false := by rfl)
    (hall : (backToKw pos (keywordEach [⟨some "key", .Name x px, k1⟩, ⟨some "reverse", .Constant (.bool true) kb pb, k2⟩] X.env)).all (·.1.isSome) = true := by rfl) (hnone : (backToKw pos (keywordEach [⟨some "key", .Name x px, k1⟩, ⟨some "reverse", .Constant (.bool true) kb pb, k2⟩] X.env)).any (·.1.isNone) = false := by rfl) (hks : (backToKw pos (keywordEach [⟨some "key", .Name x px, k1⟩, ⟨some "reverse", .Constant (.bool true) kb pb, k2⟩] X.env)).filterMap (·.1) = [Str.ofString "key", Str.ofString "reverse"] := by rfl) :
    PE X (.Call (.Name "sorted" p) [e] [⟨some "key", .Name x px, k1⟩, ⟨some "reverse", .Constant (.bool true) kb pb, k2⟩] pos) (tSortD X.K true t) := by
  obtain ⟨f, fd, hmx, hk, F, hb, _⟩ := F.ex
  have hc : CallRK X (.builtin "sorted") [Str.ofString "key", Str.ofString "reverse"] (fun vs zs H Q => zs = [.ref f, .bl true] ∧ rSortD X.K true vs H Q) := by
    rintro pins s σ H vs zs us ws Q I r rz ⟨rfl, a, ys, rfl, hs, q⟩
    obtain rfl := Vals.ref1 r
    obtain ⟨w1, w2, rfl, e1, e2⟩ := vals2 rz
    obtain rfl : w1 = Value.ref f := e1
    obtain rfl : w2 = Value.bool true := e2
    exact sorted_def (b := true) F hb hr I hs (ksk_s2 _ _ _) (fun _ => ksk_l2 _ _ _) (fun x => ksk_t2 f x true) q
  have P1 := pe_callBK (p := p) (pos := pos) hc hg hm (by rfl) he (pk_cons (pe_glob (pos := px) (v := .ref f) hgx hmx rfl hdb) (pk_cons pe_bl pk_nil)) (by decide) (by decide) hs hpl hall hnone hks
  refine ⟨fun pins s σ H Q I h => P1.run pins s σ H Q I ?_⟩
  show tCons t tNil σ H fun vs H1 => ([V.ref f, V.bl true] = [V.ref f, V.bl true]) ∧ rSortD X.K true vs H1 Q
  have e0 : (fun vs H1 => ([V.ref f, V.bl true] = [V.ref f, V.bl true]) ∧ rSortD X.K true vs H1 Q) = fun vs H1 => rSortD X.K true vs H1 Q := by
    funext vs H1
    simp
  rw [e0]
  exact h
end
section
variable {K : PySem.W.Frag} {σ : L2.St} {H : Hp} {te : TE}
theorem er_sortD {b : Bool} {ys : List (List Nat)} (h : Er K te σ H (.l (vss (ys.map S)))) : Er K (tSortD K b te) σ H (.n (vss ((ordd b ys).map S))) := fun H1 e Q q =>
  h H1 e _ fun v H2 e2 ⟨a, ea, ha⟩ => ⟨a, ys, by rw [ea], ha, fun H3 p e3 hp => q _ _ ((e2.trans e3).trans (Ex.new hp)) ⟨p, rfl, upd_same⟩⟩
end
end Mi

set_option maxHeartbeats 2000000
namespace Mi
open PySem PySem.Spec PyProof.Rows L2 Evl
abbrev vsl (L : List (List Nat)) : List V := vss (L.map S)
theorem vsl_len (L : List (List Nat)) : (vsl L).length = L.length := by simp [vss]
theorem vsl_app (L : List (List Nat)) (l : List Nat) : vsl (L ++ [l]) = vsl L ++ [.str (S l)] := by
  rw [vsl, List.map_append, vss, List.map_append]
  rfl
theorem vsl_at {L : List (List Nat)} {i : Nat} {x : V} (h : (vsl L)[i]? = some x) : ∃ l, L[i]? = some l ∧ V.str (S l) = x := by
  rw [List.getElem?_map, List.getElem?_map] at h
  cases q : L[i]? with
  | none => rw [q] at h; cases h
  | some l => rw [q] at h; exact ⟨l, rfl, Option.some.inj h⟩
section
variable {K : PySem.W.Frag} {σ : L2.St} {H H0 H' : Hp} {te ta tb : TE} {t u : TT} {a b : Bool} {d d' : Dd} {D : Ends} {tu tw tz : TS} {x y : V}
theorem a_ifSetS {i : Nat} {c e : List Nat} (h : Et K t σ H b) (h1 : b = true → Er K te σ H (.s (S c))) (h2 : σ.set i (some (.str (S e))) = σ) (k : ∀ H1, Ex H H1 → tz D (σ.set i (some (.str (S (if b = true then c else e))))) H1) : tSeq (tIfS t (tAsg te (gName i)) tNext) tz D σ H :=
  a_ifAsg (x := .str (S (if b = true then c else e))) h (fun hb => by rw [if_pos hb]; exact h1 hb) (fun hb => by rw [if_neg (by rw [hb]; exact Bool.false_ne_true)]; exact h2) k
theorem ro_ixSS {L : List (List Nat)} {i : Int} (h0 : 0 ≤ i) (h1 : i < L.length) : Ro K (rIxL K) (.l (vsl L)) (.v (.int i)) (.v (.str (S (L.getD i.toNat [])))) := by
  refine ro_ixL h0 ?_
  have h2 : i.toNat < L.length := by omega
  rw [List.getElem?_map, List.getElem?_map, List.getD_eq_getElem?_getD, List.getElem?_eq_getElem h2]
  rfl
theorem ro_ixSN {L : List (List Nat)} {i : Int} (h0 : 0 ≤ i) (h1 : i < L.length) : Ro K (rIxL K) (.n (vsl L)) (.v (.int i)) (.v (.str (S (L.getD i.toNat [])))) := fun v w H1 a b => ro_ixSS h0 h1 v w H1 a.n2l b
theorem rc_lenLL {L : List (List Nat)} : Rc K (rLenS K) [.l (vsl L)] (.v (.int (L.length : Int))) := by
  have h := rc_lenT (K := K) (ns := L.map S)
  rw [List.length_map] at h
  exact h
theorem rc_lenLN {L : List (List Nat)} : Rc K (rLenS K) [.n (vsl L)] (.v (.int (L.length : Int))) := by
  have h := rc_lenTN (K := K) (ns := L.map S)
  rw [List.length_map] at h
  exact h
/-- [n] * k -/
theorem er_same {n : Int} {k : Nat} (h : Er K te σ H (.i n)) (hk : k ≤ 1000) : Er K (tOp rRep (tLst (tCons te tNil)) (tC (.int (k : Int)))) σ H (.n (vis (List.replicate k n))) := by
  have e : vis (List.replicate k n) = (List.replicate k [V.int n]).flatten := by
    rw [vis, List.map_replicate, List.flatten_replicate_singleton]
  rw [e]
  exact er_op (er_lst (vs := [.int n]) (era_cons h era_nil) (by simp)) er_c (ro_rep (by simp; omega) (by omega))
end
theorem getD_memL {α : Type} {l : List α} {k : Nat} {z : α} (h : k < l.length) : l.getD k z ∈ l := by
  rw [List.getD_eq_getElem?_getD, List.getElem?_eq_getElem h]
  exact List.getElem_mem h
theorem getD_sz {l : List Int} {k : Nat} (h : k < l.length) : l.getD k 0 = l[k] := by
  rw [List.getD_eq_getElem?_getD, List.getElem?_eq_getElem h]
  rfl
end Mi

set_option maxHeartbeats 2000000
namespace Mi
open PySem PySem.Spec PyProof.Rows L2 Evl
section
variable {K : PySem.W.Frag} {σ : L2.St} {H H0 H' : Hp} {te ta tb : TE} {t u : TT} {a b : Bool} {d d' : Dd} {D : Ends} {tu tw tz : TS} {x y : V}
/-- if c: x = e else: x = f, both of one kind -/
theorem a_ifElse {i : Nat} (h : Et K t σ H b) (h1 : b = true → Er K ta σ H d) (h2 : b = false → Er K tb σ H d) (k : ∀ v H1, Ex H H1 → Is K H1 d v → tz D (σ.set i (some v)) H1) : tSeq (tIfS t (tAsg ta (gName i)) (tAsg tb (gName i))) tz D σ H :=
  a_if h (fun hb H1 e1 => a_asg1 (D := { D with nx := tz D }) ((h1 hb).mono e1) fun v H2 e2 z => k v H2 (e1.trans e2) z) (fun hb H1 e1 => a_asg1 (D := { D with nx := tz D }) ((h2 hb).mono e1) fun v H2 e2 z => k v H2 (e1.trans e2) z)
/-- a loop over a tuple that stands at l -/
theorem b_forU {l : Addr} {xs : List V} {tl : TE} {j : Nat} (h : Er K tl σ H (.v (.ref l))) (hx : SqT K H l xs) (Pv : Nat → L2.St → Hp → Prop) (h0 : ∀ H1, Ex H H1 → Pv 0 σ H1) (hl : ∀ i σ' H', i ≤ xs.length → Pv i σ' H' → SqT K H' l xs)
    (hs : ∀ i x σ' H', xs[i]? = some x → Pv i σ' H' → tu { D with nx := Pv (i + 1), ct := Pv (i + 1), bk := tz D } (σ'.set j (some x)) H') (hd : ∀ σ' H', Pv xs.length σ' H' → tz D σ' H') : tSeq (tFor (iTup K tl) (gName j) tu) tz D σ H :=
  h H (Ex.refl H) _ fun v H1 e z => by
    have ez : v = .ref l := z
    subst ez
    exact ⟨l, rfl, ⟨xs, ex_t e hx⟩, for_tup (D := { D with nx := tz D }) Pv (h0 H1 e) hl hs hd⟩
/-- a place of a list that was made here -/
theorem er_pos {xs : List V} {n : Nat} (h : Er K te σ H (.n xs)) (hx : xs[n]? = some x) : Er K (tOp (rIxL K) te (tC (.int (n : Int)))) σ H (.v x) :=
  er_op h er_c (ro_ixN (by omega) (by rw [Int.toNat_natCast]; exact hx))
end
theorem zipIdx_range (l : List Nat) : l.zipIdx = (List.range l.length).map fun k => (l.getD k 0, k) := by
  refine List.ext_getElem (by simp) fun i h1 h2 => ?_
  simp at h1 h2 ⊢
  rw [List.getElem?_eq_getElem (by omega)]
  rfl
end Mi

set_option maxHeartbeats 2000000
namespace Mi
open PySem PySem.Spec PyProof.Rows L2 Evl
theorem isAll_at {K : PySem.W.Frag} {H : Hp} : ∀ {ds : List Dd} {vs : List V} {i : Nat} {v : V}, IsAll K H ds vs → vs[i]? = some v → ∃ d, ds[i]? = some d ∧ Is K H d v
  | [], _, i, v, h, e => by cases h; simp at e
  | d :: ds, _, 0, v, h, e => by
    cases h with
    | cons a b => exact ⟨d, rfl, Option.some.inj e ▸ a⟩
  | d :: ds, _, i + 1, v, h, e => by
    cases h with
    | cons a b => exact isAll_at (i := i) b e
section
variable {K : PySem.W.Frag} {σ : L2.St} {H H0 H' : Hp} {te ta tb tc : TE} {t u : TT} {tr : TA} {a b : Bool} {d e d1 d2 : Dd} {D : Ends} {tu tw tz : TS} {x y : V}
/-- a loop over a list that is written out, its items of any kind -/
theorem a_forD {dss : List Dd} {j : Nat} (h : Era K tr σ H dss) (hz : dss.length ≤ 100000) (Pv : Nat → L2.St → Hp → Prop) (h0 : ∀ H1, Ex H H1 → Pv 0 σ H1)
    (hs : ∀ H1, Ex H H1 → ∀ i d v σ' H', dss[i]? = some d → (∀ H2, Ex H1 H2 → Is K H2 d v) → Pv i σ' H' → Ex H1 H' → tu { D with nx := fun σ2 H2 => Pv (i + 1) σ2 H2 ∧ Ex H1 H2, ct := fun σ2 H2 => Pv (i + 1) σ2 H2 ∧ Ex H1 H2, bk := D.nx } (σ'.set j (some v)) H')
    (hd : ∀ σ' H', Pv dss.length σ' H' → D.nx σ' H') : tFor (iList K (tLst tr)) (gName j) tu D σ H :=
  h H (Ex.refl H) _ fun vs H1 e1 z => by
    have len := z.len
    refine ⟨sz_of (by omega), fun p hp => ⟨p, rfl, ⟨vs, sq_of upd_same⟩, ?_⟩⟩
    have e2 : Ex H1 (upd H1 p (.lst vs)) := Ex.new hp
    have hq : (upd H1 p (.lst vs)) p = some (.lst vs) := upd_same
    have z2 := z.mono e2
    refine for_list (xs := vs) (fun i σ' H' => Pv i σ' H' ∧ Ex (upd H1 p (.lst vs)) H') ⟨h0 _ (e1.trans e2), Ex.refl _⟩ (fun i σ' H' _ q => sq_of (q.2 p _ hq)) (fun i v σ' H' hv q => ?_) fun σ' H' q => hd σ' H' (by rw [len]; exact q.1)
    obtain ⟨d, hd', hi⟩ := isAll_at z2 hv
    exact hs _ (e1.trans e2) i d v σ' H' hd' (fun H2 e3 => hi.mono e3) q.1 q.2
/-- [a, b][i], a and b of any kind -/
theorem er_pickD {i : Int} (h1 : Er K ta σ H d1) (h2 : Er K tb σ H d2) (hc : Er K tc σ H (.i i)) (hi : i = 0 ∨ i = 1) : Er K (tOp (rIxL K) (tLst (tCons ta (tCons tb tNil))) tc) σ H (if i = 0 then d1 else d2) := fun H1 e Q q =>
  h1 H1 e _ fun v1 H2 e2 z1 => h2 H2 (e.trans e2) _ fun v2 H3 e3 z2 => ⟨sz_of (by simp), fun p hp => by
    have e4 : Ex H3 (upd H3 p (.lst [v1, v2])) := Ex.new hp
    have hq : (upd H3 p (.lst [v1, v2])) p = some (.lst [v1, v2]) := upd_same
    refine hc _ (((e.trans e2).trans e3).trans e4) _ fun v H4 e5 z => ?_
    have ez : v = .int i := z
    subst ez
    rcases hi with rfl | rfl
    · exact ⟨p, [v1, v2], 0, v1, rfl, rfl, sq_of (e5 p _ hq), rfl, q _ _ (((e2.trans e3).trans e4).trans e5) (((z1.mono e3).mono e4).mono e5)⟩
    · exact ⟨p, [v1, v2], 1, v2, rfl, rfl, sq_of (e5 p _ hq), rfl, q _ _ (((e2.trans e3).trans e4).trans e5) ((z2.mono e4).mono e5)⟩⟩
/-- if c: x = e, values of any kind -/
theorem a_ifSetD {i : Nat} {v : V} (h : Et K t σ H b) (h1 : b = true → Er K te σ H d) (h2 : σ.set i (some v) = σ) (hv : Is K H e v) (k : ∀ w H1, Ex H H1 → Is K H1 (if b = true then d else e) w → tz D (σ.set i (some w)) H1) : tSeq (tIfS t (tAsg te (gName i)) tNext) tz D σ H :=
  a_when h (fun hb H1 e1 => a_asg1 (D := { D with nx := tz D }) ((h1 hb).mono e1) fun w H2 e2 z => k w H2 (e1.trans e2) (by rw [if_pos hb]; exact z)) (fun hb H1 e1 => by
    have g := k v H1 e1 (by rw [if_neg (by rw [hb]; exact Bool.false_ne_true)]; exact hv.mono e1)
    rw [h2] at g
    exact g)
end
theorem fnR {P : Program} {w : World} {K : PySem.W.Frag} {mg : Str → Option Value} {base : Heap} {x : Str} {st : Stmt} {f0 : Addr} {fd : FuncData} {N ps : List Str} {k : Nat} {T : Type} {pre : T → Prop} {args : T → List Dd} {ret : T → Dd}
    (F : Fun K x x st f0 fd) (Sc : FnScope N ps (defScope st)) (hl : ∀ a, (args a).length = ps.length)
    (hbody : ∀ (f : Addr) (cdv : Value) (A : Around) (outer : List Env) (s : Shared) (H : Hp) (a : T) (vs : List V) (Q : VK) (E : XK), Room k (A.deeper (envOfC x (defScope st) s.heap.objs.size f cdv)) → pre a → IsAll K H (args a) vs → (∀ v H', Ex H H' → Is K H' (ret a) v → Q v H') →
      ∃ t, PSs (cxOf CX0 P w K mg base N x (defScope st) f cdv A outer s H E).nox (defBody st) t ∧ t { nx := fun _ H' => Q .non H', rt := Q } (start N vs) H) :
    FnOk P w K mg base CX0 (k + 1) f0 fd ps (spR K pre args ret) :=
  F.ok Sc (fun vs H Q E hsp => by
    obtain ⟨a, _, hv, _⟩ := hsp
    rw [← hv.len, hl]) (fun cdv A outer s H vs Q E hr hsp => by
    obtain ⟨a, hp, hv, hk⟩ := hsp
    exact hbody f0 cdv A outer s H a vs Q E hr hp hv hk)
end Mi

set_option maxHeartbeats 2000000
namespace Mi
open PySem PySem.Spec PyProof.Rows L2 Evl
/-! ### lists and tuples whose items are told one by one -/
section
variable {K : PySem.W.Frag} {H H' : Hp}
theorem isE_all : ∀ {ds : List Dd} {vs : List V}, IsE K H ds vs ↔ IsAll K H ds vs
  | [], vs => ⟨fun h => by rw [show vs = [] from h]; exact .nil, fun h => by cases h; rfl⟩
  | d :: ds, vs => ⟨fun h => by
      obtain ⟨x, r, rfl, a, b⟩ := h
      exact .cons a (isE_all.mp b), fun h => by
      cases h with
      | cons a b => exact ⟨_, _, rfl, a, isE_all.mpr b⟩⟩
theorem isE_len {ds : List Dd} {vs : List V} (h : IsE K H ds vs) : ds.length = vs.length := (isE_all.mp h).len
theorem isE_app : ∀ {as bs : List Dd} {us vs : List V}, IsE K H as us → IsE K H bs vs → IsE K H (as ++ bs) (us ++ vs)
  | [], _, us, _, h, g => by rw [show us = [] from h]; exact g
  | d :: ds, _, us, _, h, g => by
    obtain ⟨x, r, rfl, a, b⟩ := h
    exact ⟨x, _, rfl, a, isE_app b g⟩
theorem isE_take : ∀ {ds : List Dd} {vs : List V} (n : Nat), IsE K H ds vs → IsE K H (ds.take n) (vs.take n)
  | _, vs, 0, _ => by
    rw [List.take_zero, List.take_zero]
    rfl
  | [], vs, n + 1, h => by rw [show vs = [] from h]; rfl
  | d :: ds, vs, n + 1, h => by
    obtain ⟨x, r, rfl, a, b⟩ := h
    exact ⟨x, _, rfl, a, isE_take n b⟩
theorem isE_drop : ∀ {ds : List Dd} {vs : List V} (n : Nat), IsE K H ds vs → IsE K H (ds.drop n) (vs.drop n)
  | _, vs, 0, h => h
  | [], vs, n + 1, h => by rw [show vs = [] from h]; rfl
  | d :: ds, vs, n + 1, h => by
    obtain ⟨x, r, rfl, a, b⟩ := h
    exact isE_drop n b
theorem isE_at {ds : List Dd} {vs : List V} {i : Nat} {d : Dd} (h : IsE K H ds vs) (hd : ds[i]? = some d) : ∃ v, vs[i]? = some v ∧ Is K H d v := by
  have hl := isE_len h
  have hi : i < vs.length := by
    have := (List.getElem?_eq_some_iff.mp hd).1
    omega
  obtain ⟨d', e1, e2⟩ := isAll_at (isE_all.mp h) (List.getElem?_eq_getElem hi)
  rw [hd] at e1
  exact ⟨_, List.getElem?_eq_getElem hi, Option.some.inj e1 ▸ e2⟩
theorem isE_v : ∀ {xs : List V} {vs : List V}, IsE K H (xs.map Dd.v) vs ↔ vs = xs
  | [], vs => Iff.rfl
  | x :: xs, vs => ⟨fun h => by
      obtain ⟨y, r, rfl, a, b⟩ := h
      rw [isE_v.mp b, show y = x from a], fun h => by
      rw [h]
      exact ⟨x, xs, rfl, rfl, isE_v.mpr rfl⟩⟩
theorem Is.N2L {ds : List Dd} {x : V} (h : Is K H (.N ds) x) : Is K H (.L ds) x := by
  obtain ⟨p, vs, e, q, r⟩ := h
  exact ⟨p, vs, e, sq_of q, r⟩
theorem Is.n2N {xs : List V} {x : V} (h : Is K H (.n xs) x) : Is K H (.N (xs.map Dd.v)) x := by
  obtain ⟨p, e, q⟩ := h
  exact ⟨p, xs, e, q, isE_v.mpr rfl⟩
theorem Is.N2n {xs : List V} {x : V} (h : Is K H (.N (xs.map Dd.v)) x) : Is K H (.n xs) x := by
  obtain ⟨p, vs, e, q, r⟩ := h
  rw [isE_v.mp r] at q
  exact ⟨p, e, q⟩
theorem Is.L2l {xs : List V} {x : V} (h : Is K H (.L (xs.map Dd.v)) x) : Is K H (.l xs) x := by
  obtain ⟨p, vs, e, q, r⟩ := h
  rw [isE_v.mp r] at q
  exact ⟨p, e, q⟩
theorem Is.l2L {xs : List V} {x : V} (h : Is K H (.l xs) x) : Is K H (.L (xs.map Dd.v)) x := by
  obtain ⟨p, e, q⟩ := h
  exact ⟨p, xs, e, q, isE_v.mpr rfl⟩
theorem Is.U2u {xs : List V} {x : V} (h : Is K H (.U (xs.map Dd.v)) x) : Is K H (.u xs) x := by
  obtain ⟨p, vs, e, q, r⟩ := h
  rw [isE_v.mp r] at q
  exact ⟨p, e, q⟩
theorem Is.u2U {xs : List V} {x : V} (h : Is K H (.u xs) x) : Is K H (.U (xs.map Dd.v)) x := by
  obtain ⟨p, e, q⟩ := h
  exact ⟨p, xs, e, q, isE_v.mpr rfl⟩
end
section
variable {K : PySem.W.Frag} {σ : L2.St} {H H0 H' : Hp} {te ta tb tc : TE} {t u : TT} {tr : TA} {a b : Bool} {d e d1 d2 : Dd} {D : Ends} {tu tw tz : TS} {x y : V} {ds es : List Dd}
theorem Er.as (h : Er K te σ H d) (f : ∀ H1 v, Is K H1 d v → Is K H1 e v) : Er K te σ H e := fun H1 x Q q => h H1 x Q fun v H2 e2 z => q v H2 e2 (f H2 v z)
theorem Er.N2L (h : Er K te σ H (.N ds)) : Er K te σ H (.L ds) := h.as fun _ _ z => z.N2L
theorem er_N (h : Era K tr σ H ds) (hl : ds.length ≤ 100000) : Er K (tLst tr) σ H (.N ds) := fun H1 e1 _ q =>
  h H1 e1 _ fun ws H2 e2 z => ⟨sz_of (by rw [← z.len]; exact hl), fun p hp => q _ _ (e2.trans (Ex.new hp)) ⟨p, ws, rfl, upd_same, isE_all.mpr (z.mono (Ex.new hp))⟩⟩
theorem er_U (h : Era K tr σ H ds) (hl : ds.length ≤ 100000) : Er K (tTup tr) σ H (.U ds) := fun H1 e1 _ q =>
  h H1 e1 _ fun ws H2 e2 z => ⟨sz_of (by rw [← z.len]; exact hl), fun p hp => q _ _ (e2.trans (Ex.new hp)) ⟨p, ws, rfl, st_of upd_same, isE_all.mpr (z.mono (Ex.new hp))⟩⟩
theorem ro_ixLd {i : Nat} (hd : ds[i]? = some d) : Ro K (rIxL K) (.L ds) (.i (i : Int)) d := by
  rintro _ _ H1 ⟨p, vs, rfl, hp, hE⟩ rfl Q q
  obtain ⟨v, hv, z⟩ := isE_at hE hd
  exact ⟨p, vs, (i : Int), v, rfl, rfl, hp, atI_nat hv, q _ H1 (Ex.refl H1) z⟩
theorem ro_ixNd {i : Nat} (hd : ds[i]? = some d) : Ro K (rIxL K) (.N ds) (.i (i : Int)) d := fun v w H1 a b => ro_ixLd hd v w H1 a.N2L b
theorem ro_ixUd {i : Nat} (hd : ds[i]? = some d) : Ro K (rIxT K) (.U ds) (.i (i : Int)) d := by
  rintro _ _ H1 ⟨p, vs, rfl, hp, hE⟩ rfl Q q
  obtain ⟨v, hv, z⟩ := isE_at hE hd
  exact ⟨p, vs, (i : Int), v, rfl, rfl, hp, atI_nat hv, q _ H1 (Ex.refl H1) z⟩
theorem rc_lenLd : Rc K (rLenS K) [.L ds] (.i (ds.length : Int)) := by
  rintro _ H1 (_ | ⟨⟨p, vs, rfl, hp, hE⟩, _ | _⟩) Q q
  exact ⟨p, vs, rfl, .inl hp, q _ H1 (Ex.refl H1) (by rw [isE_len hE]; rfl)⟩
theorem rc_lenNd : Rc K (rLenS K) [.N ds] (.i (ds.length : Int)) := fun vs H1 h Q q => by
  cases h with
  | cons a b => exact rc_lenLd _ H1 (.cons a.N2L b) Q q
theorem rc_lenUd : Rc K (rLenS K) [.U ds] (.i (ds.length : Int)) := by
  rintro _ H1 (_ | ⟨⟨p, vs, rfl, hp, hE⟩, _ | _⟩) Q q
  exact ⟨p, vs, rfl, .inr hp, q _ H1 (Ex.refl H1) (by rw [isE_len hE]; rfl)⟩
theorem ro_catd (h : ds.length + es.length ≤ 100000) : Ro K rCat (.N ds) (.N es) (.N (ds ++ es)) := by
  rintro _ _ H1 ⟨p, us, rfl, hp, h1⟩ ⟨p', vs, rfl, hp', h2⟩ Q q
  exact ⟨p, p', us, vs, rfl, rfl, hp, hp', sz_of (by rw [← isE_len h1, ← isE_len h2]; exact h), fun l hl => q _ _ (Ex.new hl) ⟨l, _, rfl, upd_same, isE_app (IsE.mono (Ex.new hl) h1) (IsE.mono (Ex.new hl) h2)⟩⟩
theorem rc_listLd : Rc K (rListS K) [.L ds] (.N ds) := by
  rintro _ H1 (_ | ⟨⟨p, vs, rfl, hp, hE⟩, _ | _⟩) Q q
  exact ⟨p, vs, rfl, .inl hp, fun l hl => q _ _ (Ex.new hl) ⟨l, vs, rfl, upd_same, IsE.mono (Ex.new hl) hE⟩⟩
theorem rc_listUd : Rc K (rListS K) [.U ds] (.N ds) := by
  rintro _ H1 (_ | ⟨⟨p, vs, rfl, hp, hE⟩, _ | _⟩) Q q
  exact ⟨p, vs, rfl, .inr hp, fun l hl => q _ _ (Ex.new hl) ⟨l, vs, rfl, upd_same, IsE.mono (Ex.new hl) hE⟩⟩
theorem rc_tupLd : Rc K (rTupS K) [.L ds] (.U ds) := by
  rintro _ H1 (_ | ⟨⟨p, vs, rfl, hp, hE⟩, _ | _⟩) Q q
  exact ⟨p, vs, rfl, .inl ⟨hp, fun l hl => q _ _ (Ex.new hl) ⟨l, vs, rfl, st_of upd_same, IsE.mono (Ex.new hl) hE⟩⟩⟩
theorem rc_tupNd : Rc K (rTupS K) [.N ds] (.U ds) := fun vs H1 h Q q => by
  cases h with
  | cons a b => exact rc_tupLd _ H1 (.cons a.N2L b) Q q
theorem rc_tupUd : Rc K (rTupS K) [.U ds] (.U ds) := by
  rintro _ H1 (_ | ⟨⟨p, vs, rfl, hp, hE⟩, _ | _⟩) Q q
  exact ⟨p, vs, rfl, .inr ⟨hp, q _ H1 (Ex.refl H1) ⟨p, vs, rfl, hp, hE⟩⟩⟩
theorem er_slLTo {n : Nat} (h : Er K te σ H (.L ds)) (h2 : Er K tb σ H (.i (n : Int))) : Er K (tSl (rSlL K) te tNoPart (tPart tb)) σ H (.N (ds.take n)) := fun H1 e1 _ q =>
  h H1 e1 _ fun v H2 e2 ⟨p, vs, ep, hp, hE⟩ => eo_non H2 (e1.trans e2) _ fun H3 e3 => eo_of h2 H3 ((e1.trans e2).trans e3) _ fun H4 e4 => by
    subst ep
    refine ⟨p, vs, rfl, ex_l (e3.trans e4) hp, fun l hl => q _ _ (((e2.trans e3).trans e4).trans (Ex.new hl)) ⟨l, _, rfl, upd_same, ?_⟩⟩
    have ec : cutV vs none (some (n : Int)) = vs.take n := by
      unfold cutV
      rw [HT.sIx_none, HT.sIx_nat]
      rw [List.drop_zero, Nat.sub_zero, List.take_eq_take_iff]
      omega
    rw [ec]
    exact isE_take n (IsE.mono ((e3.trans e4).trans (Ex.new hl)) hE)
theorem er_slLFrom {n : Nat} (h : Er K te σ H (.L ds)) (h2 : Er K tb σ H (.i (n : Int))) : Er K (tSl (rSlL K) te (tPart tb) tNoPart) σ H (.N (ds.drop n)) := fun H1 e1 _ q =>
  h H1 e1 _ fun v H2 e2 ⟨p, vs, ep, hp, hE⟩ => eo_of h2 H2 (e1.trans e2) _ fun H3 e3 => eo_non H3 ((e1.trans e2).trans e3) _ fun H4 e4 => by
    subst ep
    refine ⟨p, vs, rfl, ex_l (e3.trans e4) hp, fun l hl => q _ _ (((e2.trans e3).trans e4).trans (Ex.new hl)) ⟨l, _, rfl, upd_same, ?_⟩⟩
    rw [cutV_from]
    exact isE_drop n (IsE.mono ((e3.trans e4).trans (Ex.new hl)) hE)
end
end Mi

set_option maxHeartbeats 2000000
namespace Mi
open PySem PySem.Spec PyProof.Rows L2 Evl
/-! ### a view G of the heap A: what is not changed any more; lists that still grow stand outside of it -/
structure Step (G A G' A' : Hp) : Prop where
  g : Ex G G'
  v : Ex G' A'
  a : Ex A A'
  f : ∀ b, A b ≠ none → G b = none → G' b = none
theorem ex_out {G A : Hp} (e : Ex G A) {b : Addr} (h : A b = none) : G b = none := by
  cases q : G b with
  | none => rfl
  | some o => rw [e b o q] at h; cases h
theorem Step.refl {G A : Hp} (e : Ex G A) : Step G A G A := ⟨Ex.refl G, e, Ex.refl A, fun _ _ h => h⟩
theorem Step.trans {G A G1 A1 G2 A2 : Hp} (s : Step G A G1 A1) (t : Step G1 A1 G2 A2) : Step G A G2 A2 :=
  ⟨s.g.trans t.g, t.v, s.a.trans t.a, fun b h h2 => by
    refine t.f b ?_ (s.f b h h2)
    cases q : A b with
    | none => exact absurd q h
    | some o => rw [s.a b o q]; simp⟩
/-- only the heap went on -/
theorem Step.on {G A A' : Hp} (e : Ex G A) (a : Ex A A') : Step G A G A' := ⟨Ex.refl G, e.trans a, a, fun _ _ h => h⟩
theorem ex_both {G A : Hp} {p : Addr} {o : HO} (e : Ex G A) (hp : G p = none) : Ex (upd G p o) (upd A p o) := fun b x hb => by
  by_cases q : b = p
  · rw [q, upd_same] at hb ⊢
    exact hb
  · rw [upd_ne q] at hb ⊢
    exact e b x hb
/-- a new object, seen at once -/
theorem Step.new {G A : Hp} {p : Addr} {o : HO} (e : Ex G A) (hp : A p = none) : Step G A (upd G p o) (upd A p o) := by
  have hg := ex_out e hp
  refine ⟨Ex.new hg, ex_both e hg, Ex.new hp, fun b h h2 => ?_⟩
  have hb : b ≠ p := fun z => h (by rw [z]; exact hp)
  rw [upd_ne hb]
  exact h2
/-- a list of ours is done: from here on it is seen -/
theorem Step.seal {G0 A0 G A : Hp} {p : Addr} {o : HO} (s : Step G0 A0 G A) (h0 : A0 p = none) (hg : G p = none) (ha : A p = some o) : Step G0 A0 (upd G p o) A := by
  refine ⟨s.g.trans (Ex.new hg), fun b x hb => ?_, s.a, fun b h h2 => ?_⟩
  · by_cases q : b = p
    · rw [q, upd_same] at hb
      rw [q, ha]
      exact hb
    · rw [upd_ne q] at hb
      exact s.v b x hb
  · have hb : b ≠ p := fun z => h (by rw [z]; exact h0)
    rw [upd_ne hb]
    exact s.f b h h2
/-- a list of ours grows -/
theorem Step.grow {G0 A0 G A : Hp} {p : Addr} {o : HO} (s : Step G0 A0 G A) (h0 : A0 p = none) (hg : G p = none) : Step G0 A0 G (upd A p o) :=
  ⟨s.g, s.v.mut hg, s.a.mut h0, s.f⟩
def Ef (K : PySem.W.Frag) (te : TE) (σ : L2.St) (G : Hp) (d : Dd) : Prop := ∀ G1 A, Ex G G1 → Ex G1 A → ∀ Q : VK, (∀ v G' A', Step G1 A G' A' → Is K G' d v → Q v A') → te σ A Q
def Efa (K : PySem.W.Frag) (ta : TA) (σ : L2.St) (G : Hp) (ds : List Dd) : Prop := ∀ G1 A, Ex G G1 → Ex G1 A → ∀ Q : List V → Hp → Prop, (∀ vs G' A', Step G1 A G' A' → IsAll K G' ds vs → Q vs A') → ta σ A Q
def Rof (K : PySem.W.Frag) (r : R2) (d1 d2 d : Dd) : Prop := ∀ x y G A, Ex G A → Is K G d1 x → Is K G d2 y → ∀ Q : VK, (∀ v G' A', Step G A G' A' → Is K G' d v → Q v A') → r x y A Q
def Rcf (K : PySem.W.Frag) (r : List V → Hp → VK → Prop) (ds : List Dd) (d : Dd) : Prop := ∀ vs G A, Ex G A → IsAll K G ds vs → ∀ Q : VK, (∀ v G' A', Step G A G' A' → Is K G' d v → Q v A') → r vs A Q
section
variable {K : PySem.W.Frag} {σ : L2.St} {G G0 A A' : Hp} {te ta tb tc : TE} {t u : TT} {tr : TA} {d d1 d2 d' : Dd} {x y : V} {r : R2} {ds es : List Dd} {b : Bool}
theorem Ef.mono (e : Ex G0 G) (h : Ef K te σ G0 d) : Ef K te σ G d := fun G1 A e1 e2 Q q => h G1 A (e.trans e1) e2 Q q
theorem Ef.to (h : Ef K te σ G d) (e : d = d') : Ef K te σ G d' := e ▸ h
theorem Ef.as (h : Ef K te σ G d) (f : ∀ H v, Is K H d v → Is K H d' v) : Ef K te σ G d' := fun G1 A e1 e2 Q q => h G1 A e1 e2 Q fun v G' A' s z => q v G' A' s (f G' v z)
theorem Ef.er (h : Ef K te σ G d) : Er K te σ G d := fun H1 e Q q => h H1 H1 e (Ex.refl H1) Q fun v G' A' s z => q v A' s.a (z.mono s.v)
/-- a flat value is seen everywhere -/
theorem ef_flat (h : Er K te σ G (.v x)) : Ef K te σ G (.v x) := fun G1 A e1 e2 Q q => h A (e1.trans e2) Q fun v H2 e z => q v G1 H2 (.on e2 e) z
theorem ef_var {i : Nat} (h : σ[i]? = some (some x)) (hd : Is K G d x) : Ef K (tVar i) σ G d := fun G1 A e1 e2 Q q => ⟨x, h, q x G1 A (.refl e2) (hd.mono e1)⟩
theorem efa_nil : Efa K tNil σ G [] := fun G1 A e1 e2 Q q => q [] G1 A (.refl e2) .nil
theorem efa_cons (h : Ef K ta σ G d) (hr : Efa K tr σ G ds) : Efa K (tCons ta tr) σ G (d :: ds) := fun G1 A e1 e2 Q q =>
  h G1 A e1 e2 _ fun v G2 A2 s z => hr G2 A2 (e1.trans s.g) s.v _ fun vs G3 A3 s3 z3 => q _ G3 A3 (s.trans s3) (.cons (z.mono s3.g) z3)
theorem ef_op (ha : Ef K ta σ G d1) (hb : Ef K tb σ G d2) (hr : Rof K r d1 d2 d) : Ef K (tOp r ta tb) σ G d := fun G1 A e1 e2 Q q =>
  ha G1 A e1 e2 _ fun v1 G2 A2 s z => hb G2 A2 (e1.trans s.g) s.v _ fun v2 G3 A3 s3 z3 => hr v1 v2 G3 A3 s3.v (z.mono s3.g) z3 Q fun v G4 A4 s4 z4 => q v G4 A4 ((s.trans s3).trans s4) z4
theorem ef_cb {rc : List V → Hp → VK → Prop} (h : Efa K tr σ G ds) (hr : Rcf K rc ds d) : Ef K (tCB rc tr) σ G d := fun G1 A e1 e2 Q q =>
  h G1 A e1 e2 _ fun vs G2 A2 s z => hr vs G2 A2 s.v z Q fun v G3 A3 s3 z3 => q v G3 A3 (s.trans s3) z3
theorem ef_N (h : Efa K tr σ G ds) (hl : ds.length ≤ 100000) : Ef K (tLst tr) σ G (.N ds) := fun G1 A e1 e2 Q q =>
  h G1 A e1 e2 _ fun ws G2 A2 s z => ⟨sz_of (by rw [← z.len]; exact hl), fun p hp => q _ _ _ (s.trans (.new s.v hp)) ⟨p, ws, rfl, upd_same, isE_all.mpr (z.mono (Ex.new (ex_out s.v hp)))⟩⟩
theorem ef_U (h : Efa K tr σ G ds) (hl : ds.length ≤ 100000) : Ef K (tTup tr) σ G (.U ds) := fun G1 A e1 e2 Q q =>
  h G1 A e1 e2 _ fun ws G2 A2 s z => ⟨sz_of (by rw [← z.len]; exact hl), fun p hp => q _ _ _ (s.trans (.new s.v hp)) ⟨p, ws, rfl, st_of upd_same, isE_all.mpr (z.mono (Ex.new (ex_out s.v hp)))⟩⟩
theorem rf_ixL {i : Nat} (hd : ds[i]? = some d) : Rof K (rIxL K) (.L ds) (.i (i : Int)) d := by
  rintro _ _ G A e ⟨p, vs, rfl, hp, hE⟩ rfl Q q
  obtain ⟨v, hv, z⟩ := isE_at hE hd
  exact ⟨p, vs, (i : Int), v, rfl, rfl, ex_l e hp, atI_nat hv, q _ G A (.refl e) z⟩
theorem rf_ixN {i : Nat} (hd : ds[i]? = some d) : Rof K (rIxL K) (.N ds) (.i (i : Int)) d := fun v w G A e a b => rf_ixL hd v w G A e a.N2L b
theorem rf_ixU {i : Nat} (hd : ds[i]? = some d) : Rof K (rIxT K) (.U ds) (.i (i : Int)) d := by
  rintro _ _ G A e ⟨p, vs, rfl, hp, hE⟩ rfl Q q
  obtain ⟨v, hv, z⟩ := isE_at hE hd
  exact ⟨p, vs, (i : Int), v, rfl, rfl, ex_t e hp, atI_nat hv, q _ G A (.refl e) z⟩
theorem rf_cat (h : ds.length + es.length ≤ 100000) : Rof K rCat (.N ds) (.N es) (.N (ds ++ es)) := by
  rintro _ _ G A e ⟨p, us, rfl, hp, h1⟩ ⟨p', vs, rfl, hp', h2⟩ Q q
  exact ⟨p, p', us, vs, rfl, rfl, e p _ hp, e p' _ hp', sz_of (by rw [← isE_len h1, ← isE_len h2]; exact h), fun l hl => q _ _ _ (.new e hl) ⟨l, _, rfl, upd_same, isE_app (IsE.mono (Ex.new (ex_out e hl)) h1) (IsE.mono (Ex.new (ex_out e hl)) h2)⟩⟩
theorem rf_listL : Rcf K (rListS K) [.L ds] (.N ds) := by
  rintro _ G A e (_ | ⟨⟨p, vs, rfl, hp, hE⟩, _ | _⟩) Q q
  exact ⟨p, vs, rfl, .inl (ex_l e hp), fun l hl => q _ _ _ (.new e hl) ⟨l, vs, rfl, upd_same, IsE.mono (Ex.new (ex_out e hl)) hE⟩⟩
theorem rf_listU : Rcf K (rListS K) [.U ds] (.N ds) := by
  rintro _ G A e (_ | ⟨⟨p, vs, rfl, hp, hE⟩, _ | _⟩) Q q
  exact ⟨p, vs, rfl, .inr (ex_t e hp), fun l hl => q _ _ _ (.new e hl) ⟨l, vs, rfl, upd_same, IsE.mono (Ex.new (ex_out e hl)) hE⟩⟩
theorem rf_tupL : Rcf K (rTupS K) [.L ds] (.U ds) := by
  rintro _ G A e (_ | ⟨⟨p, vs, rfl, hp, hE⟩, _ | _⟩) Q q
  exact ⟨p, vs, rfl, .inl ⟨ex_l e hp, fun l hl => q _ _ _ (.new e hl) ⟨l, vs, rfl, st_of upd_same, IsE.mono (Ex.new (ex_out e hl)) hE⟩⟩⟩
theorem rf_tupN : Rcf K (rTupS K) [.N ds] (.U ds) := fun vs G A e h Q q => by
  cases h with
  | cons a b => exact rf_tupL _ G A e (.cons a.N2L b) Q q
theorem rf_tupU : Rcf K (rTupS K) [.U ds] (.U ds) := by
  rintro _ G A e (_ | ⟨⟨p, vs, rfl, hp, hE⟩, _ | _⟩) Q q
  exact ⟨p, vs, rfl, .inr ⟨ex_t e hp, q _ G A (.refl e) ⟨p, vs, rfl, hp, hE⟩⟩⟩
/-- calls of the text's own defs -/
def spF (K : PySem.W.Frag) {T : Type} (pre : T → Prop) (args : T → List Dd) (ret : T → Dd) : Sp := fun vs A Q _ => ∃ a : T, pre a ∧ ∃ G, Ex G A ∧ IsAll K G (args a) vs ∧ ∀ v G' A', Step G A G' A' → Is K G' (ret a) v → Q v A'
theorem ef_call {T : Type} {pre : T → Prop} {args : T → List Dd} {ret : T → Dd} {E : XK} (a : T) (h : Efa K tr σ G ds) (hd : ds = args a) (hp : pre a) : Ef K (tCall (spF K pre args ret) [] E tr) σ G (ret a) := fun G1 A e1 e2 Q q =>
  h G1 A e1 e2 _ fun vs G2 A2 s z => by
    rw [List.append_nil]
    exact ⟨a, hp, G2, s.v, hd ▸ z, fun v G3 A3 s3 z3 => q v G3 A3 (s.trans s3) z3⟩
/-- what is told of views holds of heaps -/
theorem spF_of {T : Type} {pre : T → Prop} {args : T → List Dd} {ret : T → Dd} : ∀ vs H Q E, spR K pre args ret vs H Q E → spF K pre args ret vs H Q E := by
  rintro vs H Q E ⟨a, hp, hv, hk⟩
  exact ⟨a, hp, H, Ex.refl H, hv, fun v G' A' s z => hk v A' s.a (z.mono s.v)⟩
theorem ef_if {b : Bool} (h : ∀ A, Ex G A → Et K t σ A b) (h1 : b = true → Ef K ta σ G d) (h2 : b = false → Ef K tb σ G d) : Ef K (tIf t ta tb) σ G d := fun G1 A e1 e2 Q q =>
  h A (e1.trans e2) A (Ex.refl A) _ fun A2 ea => by
    cases b with
    | true => exact h1 rfl G1 A2 e1 (e2.trans ea) Q fun v G' A' s z => q v G' A' ((Step.on e2 ea).trans s) z
    | false => exact h2 rfl G1 A2 e1 (e2.trans ea) Q fun v G' A' s z => q v G' A' ((Step.on e2 ea).trans s) z
end
end Mi

set_option maxHeartbeats 2000000
namespace Mi
open PySem PySem.Spec PyProof.Rows L2 Evl
/-! ### what is walked, seen from a view -/
def Wk (K : PySem.W.Frag) (J : It) (G2 : Hp) (ds : List Dd) : Prop := ∀ i G' A', Ex G2 G' → Ex G' A' → (∀ d, ds[i]? = some d → J.go i A' ∧ ∀ v A'', J.yld i A' v A'' → ∃ G'', Step G' A' G'' A'' ∧ Is K G'' d v) ∧ (i = ds.length → J.stop i A')
def Itf (K : PySem.W.Frag) (wi : TI) (σ : L2.St) (G : Hp) (ds : List Dd) : Prop := ∀ G1 A, Ex G G1 → Ex G1 A → ∀ R, (∀ J G2 A2, Step G1 A G2 A2 → Wk K J G2 ds → R J A2) → wi σ A R
section
variable {K : PySem.W.Frag} {σ : L2.St} {G G0 A A' : Hp} {te tl tb : TE} {t : TT} {ta : TA} {wi : TI} {g : TG} {d e d1 d2 : Dd} {D : Ends} {tu tz : TS} {v x : V} {ds es : List Dd} {b : Bool}
theorem if_list (h : Ef K tl σ G (.L ds)) : Itf K (iList K tl) σ G ds := fun G1 A e1 e2 R r =>
  h G1 A e1 e2 _ fun v G2 A2 s ⟨p, vs, ep, hp, hE⟩ => by
    subst ep
    refine ⟨p, rfl, ⟨vs, ex_l s.v hp⟩, r _ G2 A2 s fun i G' A' e3 e4 => ⟨fun d hd => ?_, fun hi => ⟨vs, ex_l (e3.trans e4) hp, by rw [← isE_len hE]; omega⟩⟩⟩
    obtain ⟨y, hy, z⟩ := isE_at hE hd
    refine ⟨⟨vs, y, ex_l (e3.trans e4) hp, hy⟩, fun v A'' hyl => ?_⟩
    obtain ⟨rfl, hall⟩ := hyl
    have ev := (hall vs (ex_l (e3.trans e4) hp)).symm.trans hy
    rw [Option.some.inj ev]
    exact ⟨G', .refl e4, z.mono e3⟩
theorem if_tup (h : Ef K tl σ G (.U ds)) : Itf K (iTup K tl) σ G ds := fun G1 A e1 e2 R r =>
  h G1 A e1 e2 _ fun v G2 A2 s ⟨p, vs, ep, hp, hE⟩ => by
    subst ep
    refine ⟨p, rfl, ⟨vs, ex_t s.v hp⟩, r _ G2 A2 s fun i G' A' e3 e4 => ⟨fun d hd => ?_, fun hi => ⟨vs, ex_t (e3.trans e4) hp, by rw [← isE_len hE]; omega⟩⟩⟩
    obtain ⟨y, hy, z⟩ := isE_at hE hd
    refine ⟨⟨vs, y, ex_t (e3.trans e4) hp, hy⟩, fun v A'' hyl => ?_⟩
    obtain ⟨rfl, hall⟩ := hyl
    have ev := (hall vs (ex_t (e3.trans e4) hp)).symm.trans hy
    rw [Option.some.inj ev]
    exact ⟨G', .refl e4, z.mono e3⟩
theorem if_range {n : Nat} (h : Era K ta σ G [.i (n : Int)]) (hn : n ≤ 100000) : Itf K (iRng1 ta) σ G ((List.range n).map fun i : Nat => Dd.i (i : Int)) := fun G1 A e1 e2 R r =>
  h A (e1.trans e2) _ fun vs A2 ea z => by
    rcases z with _ | ⟨rfl, _ | _⟩
    refine ⟨(n : Int), rfl, by omega, by omega, r _ G1 A2 (.on e2 ea) fun i G' A' e3 e4 => ⟨fun d hd => ?_, fun hi => ?_⟩⟩
    · have hi : i < n := by
        have := (List.getElem?_eq_some_iff.mp hd).1
        simpa using this
      rw [List.getElem?_map, List.getElem?_range hi] at hd
      have ed := Option.some.inj hd
      refine ⟨show i < (n : Int).toNat by omega, fun v A'' hyl => ?_⟩
      obtain ⟨rfl, rfl⟩ := hyl
      refine ⟨G', .refl e4, ?_⟩
      rw [← ed]
      show V.int (0 + (i : Int)) = V.int (i : Int)
      rw [Int.zero_add]
    · show (n : Int).toNat ≤ i
      rw [List.length_map, List.length_range] at hi
      omega
theorem if_text {z : List Nat} (h : Er K tl σ G (.s (S z))) : Itf K (iStr tl) σ G (z.map fun c => Dd.s (S [c])) := fun G1 A e1 e2 R r =>
  h A (e1.trans e2) _ fun v A2 ea ev => by
    refine ⟨S z, ev, r _ G1 A2 (.on e2 ea) fun i G' A' e3 e4 => ⟨fun d hd => ?_, fun hi => ?_⟩⟩
    · rw [List.getElem?_map] at hd
      cases hc : z[i]? with
      | none => rw [hc] at hd; cases hd
      | some c =>
        rw [hc] at hd
        have ed := Option.some.inj hd
        have hi := (List.getElem?_eq_some_iff.mp hc).1
        refine ⟨show i < (S z).cps.size by rw [S_size]; exact hi, fun v A'' hyl => ?_⟩
        obtain ⟨rfl, c', hc', rfl⟩ := hyl
        rw [S_at, hc] at hc'
        rw [← ed, ← Option.some.inj hc']
        exact ⟨G', .refl e4, rfl⟩
    · show (S z).cps.size ≤ i
      rw [S_size]
      rw [List.length_map] at hi
      omega
theorem if_pairs {ps : List (V × V)} {wi : TI} (h : ∀ A, Ex G A → ∀ R, (∀ A2, Ex A A2 → R (ItP ps) A2) → wi σ A R) : Itf K wi σ G (ps.map fun p => Dd.U [.v p.1, .v p.2]) := fun G1 A e1 e2 R r =>
  h A (e1.trans e2) R fun A2 ea => r _ G1 A2 (.on e2 ea) fun i G' A' e3 e4 => ⟨fun d hd => by
    rw [List.getElem?_map] at hd
    cases hc : ps[i]? with
    | none => rw [hc] at hd; cases hd
    | some p =>
      rw [hc] at hd
      have ed := Option.some.inj hd
      refine ⟨(List.getElem?_eq_some_iff.mp hc).1, fun v A'' hyl => ?_⟩
      obtain ⟨T, x, y, rfl, hT, rfl, hxy⟩ := hyl
      rw [hc] at hxy
      have ep := Option.some.inj hxy
      rw [← ed, ep]
      exact ⟨_, .new e4 hT, T, [x, y], rfl, st_of upd_same, x, [y], rfl, rfl, y, [], rfl, rfl, rfl⟩, fun hi => by
    rw [List.length_map] at hi
    exact hi⟩
theorem if_zipS {a b : List Nat} (h : Era K ta σ G [.s (S a), .s (S b)]) : Itf K (iZipS ta) σ G ((a.zip b).map fun p => Dd.U [.s (S [p.1]), .s (S [p.2])]) := by
  have e : (a.zip b).map (fun p => Dd.U [.s (S [p.1]), .s (S [p.2])]) = (zipS (S a) (S b)).map fun p => Dd.U [.v p.1, .v p.2] := by
    unfold zipS
    rw [List.map_map]
    rfl
  rw [e]
  exact if_pairs fun A e1 R r => h A e1 _ fun vs A2 ea z => by
    rcases z with _ | ⟨rfl, _ | ⟨rfl, _ | _⟩⟩
    exact ⟨S a, S b, rfl, r A2 ea⟩
/-- a loop over what is walked -/
theorem f_for (h : Itf K wi σ G ds) (hA : Ex G A) (Pv : Nat → L2.St → Hp → Hp → Prop) (h0 : ∀ G1 A1, Step G A G1 A1 → Pv 0 σ G1 A1)
    (hs : ∀ G1, Ex G G1 → ∀ i d v σ' G' A' G2 A2, ds[i]? = some d → Pv i σ' G' A' → Ex G1 G' → Ex G' A' → Step G' A' G2 A2 → Is K G2 d v → g v σ' A2 fun σ2 A3 => tu { D with nx := fun σ3 A4 => ∃ G4, Pv (i + 1) σ3 G4 A4 ∧ Ex G1 G4 ∧ Ex G4 A4, ct := fun σ3 A4 => ∃ G4, Pv (i + 1) σ3 G4 A4 ∧ Ex G1 G4 ∧ Ex G4 A4, bk := D.nx } σ2 A3)
    (hd : ∀ σ' G' A', Ex G G' → Ex G' A' → Pv ds.length σ' G' A' → D.nx σ' A') : tFor wi g tu D σ A :=
  h G A (Ex.refl G) hA _ fun J G1 A1 s hw => by
    refine ⟨fun i m σ' A' => m = ds.length - i ∧ i ≤ ds.length ∧ ∃ G', Pv i σ' G' A' ∧ Ex G1 G' ∧ Ex G' A', ⟨_, rfl, Nat.zero_le _, G1, h0 G1 A1 s, Ex.refl G1, s.v⟩, ?_⟩
    rintro i m σ' A' ⟨rfl, hi, G', p, eg, ea⟩
    by_cases hlt : i < ds.length
    · have hd' : ds[i]? = some ds[i] := List.getElem?_eq_getElem hlt
      obtain ⟨go, yl⟩ := (hw i G' A' eg ea).1 _ hd'
      refine .inr ⟨go, fun σ3 A4 => ∃ G4, Pv (i + 1) σ3 G4 A4 ∧ Ex G1 G4 ∧ Ex G4 A4, fun σ3 A4 q => ⟨ds.length - (i + 1), by omega, rfl, hlt, q⟩, fun v A'' y => ?_⟩
      obtain ⟨G2, s2, z⟩ := yl v A'' y
      exact hs G1 s.g i _ v σ' G' A' G2 A'' hd' p eg ea s2 z
    · have e : i = ds.length := by omega
      subst e
      exact .inl ⟨(hw _ G' A' eg ea).2 rfl, hd σ' G' A' (s.g.trans eg) ea p⟩
theorem b_for (h : Itf K wi σ G ds) (hA : Ex G A) (Pv : Nat → L2.St → Hp → Hp → Prop) (h0 : ∀ G1 A1, Step G A G1 A1 → Pv 0 σ G1 A1)
    (hs : ∀ G1, Ex G G1 → ∀ i d v σ' G' A' G2 A2, ds[i]? = some d → Pv i σ' G' A' → Ex G1 G' → Ex G' A' → Step G' A' G2 A2 → Is K G2 d v → g v σ' A2 fun σ2 A3 => tu { D with nx := fun σ3 A4 => ∃ G4, Pv (i + 1) σ3 G4 A4 ∧ Ex G1 G4 ∧ Ex G4 A4, ct := fun σ3 A4 => ∃ G4, Pv (i + 1) σ3 G4 A4 ∧ Ex G1 G4 ∧ Ex G4 A4, bk := tz D } σ2 A3)
    (hd : ∀ σ' G' A', Ex G G' → Ex G' A' → Pv ds.length σ' G' A' → tz D σ' A') : tSeq (tFor wi g tu) tz D σ A := f_for (D := { D with nx := tz D }) h hA Pv h0 hs hd
/-- two names for a pair -/
theorem g_two {j1 j2 : Nat} {Q : L2.St → Hp → Prop} (hA : Ex G A) (h : Is K G (.U [d1, d2]) v) (k : ∀ v1 v2, Is K G d1 v1 → Is K G d2 v2 → Q ((σ.set j1 (some v1)).set j2 (some v2)) A) : gTup K 2 (gCons (gName j1) (gCons (gName j2) gNil)) v σ A Q := by
  obtain ⟨T, vs, rfl, hT, x, r, rfl, hx, y, r2, rfl, hy, hr⟩ := h
  have er : r2 = [] := hr
  subst er
  exact ⟨T, [x, y], rfl, ex_t hA hT, rfl, x, [y], rfl, y, [], rfl, rfl, k x y hx hy⟩
/-- a comprehension over what is walked -/
theorem ef_lc {α : Type} {its : List α} {inj : α → Dd} {vs : List Nat} (f : α → Bool) (gd : α → Dd) (h : Itf K wi σ G (its.map inj)) (hz : its.length ≤ 50000)
    (hs : ∀ (i : Nat) x v G' A', Ex G G' → Ex G' A' → its[i]? = some x → Is K G' (inj x) v → ∃ σ2, (∀ Q : L2.St → Hp → Prop, Q σ2 A' → g v (wipe σ vs) A' Q) ∧ wipe σ2 vs = wipe σ vs ∧ Et K t σ2 A' (f x) ∧ (f x = true → Ef K te σ2 G' (gd x))) :
    Ef K (tLc wi g t te vs) σ G (.N ((its.filter f).map gd)) := fun G0 A0 e0 ea0 Q q =>
  h G0 A0 e0 ea0 _ fun J G1 A1 s1 hw => fun Dl hD => by
    have gD := ex_out s1.v hD
    refine ⟨fun i m A' => m = its.length - i ∧ i ≤ its.length ∧ ∃ G', Step G1 A1 G' A' ∧ G' Dl = none ∧ ∃ us, A' Dl = some (.lst us) ∧ IsE K G' (((its.take i).filter f).map gd) us, ⟨_, rfl, Nat.zero_le _, G1, .on s1.v (Ex.new hD), gD, [], upd_same, rfl⟩, ?_⟩
    rintro i m A' ⟨rfl, hi, G', st, hg, us, hu, hE⟩
    by_cases hlt : i < its.length
    · have hx : its[i]? = some its[i] := List.getElem?_eq_getElem hlt
      have hd' : (its.map inj)[i]? = some (inj its[i]) := by rw [List.getElem?_map, hx]; rfl
      obtain ⟨go, yl⟩ := (hw i G' A' st.g st.v).1 _ hd'
      refine .inr ⟨go, fun A3 => ∃ G3, Step G1 A1 G3 A3 ∧ G3 Dl = none ∧ ∃ us, A3 Dl = some (.lst us) ∧ IsE K G3 (((its.take (i + 1)).filter f).map gd) us, fun A3 p3 => ⟨its.length - (i + 1), by omega, rfl, hlt, p3⟩, fun v A'' y => ?_⟩
      obtain ⟨G2, s2, z⟩ := yl v A'' y
      have uN : A' Dl ≠ none := by rw [hu]; simp
      have g2 := s2.f Dl uN hg
      have u2 := s2.a Dl _ hu
      obtain ⟨σ2, hgt, hwp, htt, hte⟩ := hs i _ v G2 A'' ((e0.trans s1.g).trans (st.g.trans s2.g)) s2.v hx z
      have hl : us.length ≤ i := by
        rw [← isE_len hE, List.length_map]
        refine Nat.le_trans (List.length_filter_le _ _) ?_
        rw [List.length_take]
        exact Nat.min_le_left _ _
      refine hgt _ ⟨hwp, htt A'' (Ex.refl _) _ fun A3 e3 => ?_⟩
      have hn : (its.take (i + 1)).filter f = (its.take i).filter f ++ if f its[i] = true then [its[i]] else [] := by
        rw [List.take_add_one, hx]
        simp only [Option.toList, List.filter_append]
        congr 1
        by_cases hf : f its[i] = true
        · simp [hf]
        · simp [hf]
      have s3 := (st.trans s2).trans (Step.on s2.v e3)
      have u3 := e3 Dl _ u2
      by_cases hf : f its[i] = true
      · rw [if_pos hf]
        refine hte hf G2 A3 (Ex.refl G2) s3.v _ fun w G4 A4 s4 zw => ⟨us, s4.a Dl _ u3, sz_lt (by omega), ?_⟩
        have g4 := s4.f Dl (by rw [u3]; simp) g2
        refine ⟨G4, (s3.trans s4).grow hD g4, g4, us ++ [w], upd_same, ?_⟩
        rw [hn, if_pos hf, List.map_append]
        exact isE_app (IsE.mono (s2.g.trans s4.g) hE) ⟨w, [], rfl, zw, rfl⟩
      · rw [if_neg hf]
        refine ⟨G2, s3, g2, us, u3, ?_⟩
        rw [hn, if_neg hf, List.append_nil]
        exact IsE.mono s2.g hE
    · have e : i = its.length := by omega
      subst e
      refine .inl ⟨(hw _ G' A' st.g st.v).2 (by rw [List.length_map]), q _ (upd G' Dl (.lst us)) A' (s1.trans (st.seal hD hg hu)) ⟨Dl, us, rfl, upd_same, ?_⟩⟩
      rw [List.take_length] at hE
      exact IsE.mono (Ex.new hg) hE
/-! ### statements -/
theorem s_set {i : Nat} (h : Ef K te σ G d) (hA : Ex G A) (k : ∀ v G' A', Step G A G' A' → Is K G' d v → tz D (σ.set i (some v)) A') : tSeq (tAsg te (gName i)) tz D σ A := h G A (Ex.refl G) hA _ fun v G' A' s z => k v G' A' s z
theorem s_set1 {i : Nat} (h : Ef K te σ G d) (hA : Ex G A) (k : ∀ v G' A', Step G A G' A' → Is K G' d v → D.nx (σ.set i (some v)) A') : tAsg te (gName i) D σ A := h G A (Ex.refl G) hA _ fun v G' A' s z => k v G' A' s z
theorem s_ret {d' : Dd} (h : Ef K te σ G d) (hA : Ex G A) (hd : d = d') (k : ∀ v G' A', Step G A G' A' → Is K G' d' v → D.rt v A') : tRet te D σ A := h G A (Ex.refl G) hA _ fun v G' A' s z => k v G' A' s (hd ▸ z)
theorem s_new {i : Nat} (hA : Ex G A) (k : ∀ p A', A p = none → G p = none → Step G A G A' → A' p = some (.lst []) → tz D (σ.set i (some (.ref p))) A') : tSeq (tAsg (tLst tNil) (gName i)) tz D σ A :=
  ⟨Nat.zero_le _, fun p hp => k p _ hp (ex_out hA hp) (.on hA (Ex.new hp)) upd_same⟩
theorem s_app {l : Addr} {us : List V} (hl : A l = some (.lst us)) (hg : G l = none) (hA : Ex G A) (ha : Er K tl σ A (.v (.ref l))) (h : Ef K te σ G d) (hz : us.length < 100000) (k : ∀ w G' A', Step G A G' A' → Is K G' d w → G' l = none → A' l = some (.lst us) → D.nx σ (upd A' l (.lst (us ++ [w])))) :
    tDrop (tBM K "list" rAppend tl (tCons te tNil)) D σ A := ha A (Ex.refl A) _ fun v A1 e1 z1 => by
  have ez : v = .ref l := z1
  subst ez
  have h1 := e1 l _ hl
  exact ⟨Or.inl ⟨rfl, us, sq_of h1⟩, h G A1 (Ex.refl G) (hA.trans e1) _ fun w G2 A2 s2 z2 => ⟨l, us, w, rfl, rfl, s2.a l _ h1, sz_lt hz, k w G2 A2 ((Step.on hA e1).trans s2) z2 (s2.f l (by rw [h1]; simp) hg) (s2.a l _ h1)⟩⟩
end
theorem At.hasF {P : Program} {w : World} {K : PySem.W.Frag} {mg : Str → Option Value} {base : Heap} {x : Str} {st : Stmt} {N ps : List Str} {k : Nat} {T : Type} {pre : T → Prop} {args : T → List Dd} {ret : T → Dd}
    (h : At K mg x st ps) (Sc : FnScope N ps (defScope st)) (hl : ∀ a, (args a).length = ps.length)
    (hbody : ∀ (f : Addr) (cdv : Value) (Ar : Around) (outer : List Env) (s : Shared) (G A : Hp) (a : T) (vs : List V) (Q : VK) (E : XK), Room k (Ar.deeper (envOfC x (defScope st) s.heap.objs.size f cdv)) → pre a → Ex G A → IsAll K G (args a) vs →
      (∀ v G' A', Step G A G' A' → Is K G' (ret a) v → Q v A') →
      ∃ t, PSs (cxOf CX0 P w K mg base N x (defScope st) f cdv Ar outer s A E).nox (defBody st) t ∧ t { nx := fun _ A' => Q .non A', rt := Q } (start N vs) A) :
    Has P w K mg base (k + 1) x ps (spF K pre args ret) := by
  obtain ⟨f, fd, hm, F, b0, b1, b2⟩ := h.ex
  refine ⟨f, fd, hm, F.kp, F.ok Sc (fun vs H Q E hsp => ?_) (fun cdv Ar outer s A vs Q E hr hsp => ?_), b0, b1, b2⟩
  · obtain ⟨a, _, G, _, hv, _⟩ := hsp
    rw [← hv.len, hl]
  · obtain ⟨a, hp, G, hA, hv, hk⟩ := hsp
    exact hbody f cdv Ar outer s G A a vs Q E hr hp hA hv hk
end Mi

set_option maxHeartbeats 2000000
namespace Mi
open PySem PySem.Spec PyProof.Rows L2 Evl
def rMin2' : List V → Hp → VK → Prop := fun xs H Q => ∃ i j, xs = [.int i, .int j] ∧ Q (.int (if j < i then j else i)) H
theorem cr_min2' {X : Cx} (hc : X.calm = true := by rfl) : CallR X (.builtin "min") rMin2' := call_min2 hc
theorem cr_sum_k {X : Cx} {K : PySem.W.Frag} (h : X.K = K := by rfl) (hc : X.calm = true := by rfl) : CallR X (.builtin "sum") (rSum K) := h ▸ cr_sum hc
theorem cr_all_k {X : Cx} {K : PySem.W.Frag} (h : X.K = K := by rfl) (hc : X.calm = true := by rfl) : CallR X (.builtin "all") (rAll K) := h ▸ cr_all hc
section
variable {K : PySem.W.Frag} {σ : L2.St} {G A H H' : Hp} {te ta tb tc : TE} {t u : TT} {tr : TA} {d d1 d2 d3 : Dd} {x y : V} {r r' : R2} {b1 b2 : Bool}
theorem rc_min2 {i j : Int} : Rc K rMin2' [.i i, .i j] (.i (if j < i then j else i)) := by
  rintro _ H1 (_ | ⟨rfl, _ | ⟨rfl, _ | _⟩⟩) Q q
  exact ⟨i, j, rfl, q _ H1 (Ex.refl H1) rfl⟩
theorem rc_sumI {ns : List Int} : Rc K (rSum K) [.l (vis ns)] (.i ns.sum) := by
  rintro _ H1 (_ | ⟨⟨p, rfl, hp⟩, _ | _⟩) Q q
  exact ⟨p, ns, rfl, hp, q _ H1 (Ex.refl H1) rfl⟩
theorem rc_allB {bs : List Bool} : Rc K (rAll K) [.l (bs.map V.bl)] (.b (bs.all id)) := by
  rintro _ H1 (_ | ⟨⟨p, rfl, hp⟩, _ | _⟩) Q q
  exact ⟨p, bs, rfl, hp, q _ H1 (Ex.refl H1) rfl⟩
theorem rc_allBN {bs : List Bool} : Rc K (rAll K) [.n (bs.map V.bl)] (.b (bs.all id)) := fun vs H1 h Q q => by
  cases h with
  | cons a b => exact rc_allB _ H1 (.cons a.n2l b) Q q
/-- a op b op' c -/
theorem er_chain (ha : Er K ta σ H d1) (hb : Er K tb σ H d2) (hr : Ro K r d1 d2 (.b b1)) (hc : b1 = true → Er K tc σ H d3) (hr' : b1 = true → Ro K r' d2 d3 (.b b2)) : Er K (tChain r r' ta tb tc) σ H (.b (b1 && b2)) := fun H1 e Q q =>
  ha H1 e _ fun v1 H2 e2 z1 => hb H2 (e.trans e2) _ fun v2 H3 e3 z2 => hr v1 v2 H3 (z1.mono e3) z2 _ fun w H4 e4 zw => ⟨b1, zw, by
    cases b1 with
    | true =>
      rw [if_pos rfl]
      exact hc rfl H4 (((e.trans e2).trans e3).trans e4) _ fun v3 H5 e5 z3 => hr' rfl v2 v3 H5 ((z2.mono e4).mono e5) z3 Q fun w H6 e6 z6 => q w H6 ((((e2.trans e3).trans e4).trans e5).trans e6) z6
    | false =>
      rw [if_neg Bool.false_ne_true]
      exact q _ H4 ((e2.trans e3).trans e4) rfl⟩
end
end Mi

set_option maxHeartbeats 2000000
namespace Mi
open PySem PySem.Spec PyProof.Rows L2 Evl
theorem cutS_mid (l : List Nat) (n m : Nat) (hm : m ≤ l.length) : cutS (S l) (some (n : Int)) (some (m : Int)) = S ((l.drop n).take (m - n)) := by
  unfold cutS
  rw [HT.sIx_nat, HT.sIx_nat, S_len, S_list]
  show S _ = S _
  congr 1
  have e2 : min m l.length = m := by omega
  by_cases h : n ≤ l.length
  · have e1 : min n l.length = n := by omega
    rw [e1, e2]
  · have e1 : min n l.length = l.length := by omega
    rw [e1, e2, List.drop_length, List.drop_of_length_le (by omega : l.length ≤ n), List.take_nil, List.take_nil]
section
variable {K : PySem.W.Frag} {σ : L2.St} {H : Hp} {te ta tb : TE} {t : TT}
theorem er_slMidS {l : List Nat} {n m : Nat} (h : Er K te σ H (.s (S l))) (hz : l.length ≤ 100000) (h1 : Er K ta σ H (.i (n : Int))) (h2 : Er K tb σ H (.i (m : Int))) (hm : m ≤ l.length) : Er K (tSl rSlS te (tPart ta) (tPart tb)) σ H (.s (S ((l.drop n).take (m - n)))) := by
  rw [← cutS_mid _ _ _ hm]
  exact er_slS h (by rw [S_len]; exact hz) (eo_of h1) (eo_of h2)
theorem er_dash {n : Nat} {te tn : TE} (h1 : Er K te σ H (.s (S [45]))) (h2 : Er K tn σ H (.i (n : Int))) (hn : n ≤ 1000) : Er K (tOp rMulS te tn) σ H (.s (S (List.replicate n 45))) := Er.to (er_op h1 h2 (ro_mulC hn (by decide))) (by rw [List.flatten_replicate_singleton])
/-- a text's sign at a place that is known to be whole and not below zero -/
theorem er_sign {l : List Nat} {n : Nat} (h : Er K te σ H (.s (S l))) (h2 : Er K ta σ H (.i (n : Int))) (hn : n < l.length) (hz : l.length ≤ 100000) : Er K (tOp rIxS te ta) σ H (.s (S [l.getD n 0])) := Er.to (er_op h h2 (ro_ixC (by omega) (by omega) hz)) (by rw [Int.toNat_natCast])
theorem er_num {ns : List Int} {n : Nat} (h : Er K te σ H (.l (vis ns))) (h2 : Er K ta σ H (.i (n : Int))) (hn : n < ns.length) : Er K (tOp (rIxL K) te ta) σ H (.i (ns.getD n 0)) := Er.to (er_op h h2 (ro_ixI (by omega) (by omega))) (by rw [Int.toNat_natCast])
theorem er_numN {ns : List Int} {n : Nat} (h : Er K te σ H (.n (vis ns))) (h2 : Er K ta σ H (.i (n : Int))) (hn : n < ns.length) : Er K (tOp (rIxL K) te ta) σ H (.i (ns.getD n 0)) := Er.to (er_op h h2 (ro_ixIN (by omega) (by omega))) (by rw [Int.toNat_natCast])
theorem er_numL {xs : List Int} {i : Nat} (h : Er K te σ H (.n (vis xs))) (h2 : Er K ta σ H (.i (i : Int))) (hn : i < xs.length) : Er K (tOp (rIxL K) te ta) σ H (.i (xs.getD i 0)) := er_numN h h2 hn
end
end Mi

set_option maxHeartbeats 2000000
namespace Mi
open PySem PySem.Spec PyProof.Rows L2 Evl
section
variable {K : PySem.W.Frag} {σ : L2.St} {G A H : Hp} {te to ti tl ta tb : TE} {t : TT} {tu : TS} {d e : Dd} {D : Ends} {ds es : List Dd} {b : Bool}
theorem s_setitem {l : Addr} {us : List V} {j : Nat} (hl : A l = some (.lst us)) (hg : G l = none) (hA : Ex G A) (h : Ef K te σ G d) (ha : Er K to σ A (.v (.ref l))) (hi : Er K ti σ A (.i (j : Int))) (hj : j < us.length)
    (k : ∀ w G' A', Step G A G' A' → Is K G' d w → G' l = none → A' l = some (.lst us) → D.nx σ (upd A' l (.lst (us.set j w)))) : tAsg te (gSub to ti rSetL) D σ A :=
  h G A (Ex.refl G) hA _ fun w G1 A1 s1 z1 => ha A1 s1.a _ fun v A2 e2 zv => hi A2 (s1.a.trans e2) _ fun i A3 e3 zi => by
    have ev : v = .ref l := zv
    have ei : i = .int (j : Int) := zi
    subst ev
    subst ei
    have l3 := e3 l _ (e2 l _ (s1.a l _ hl))
    refine ⟨l, us, (j : Int), j, rfl, rfl, l3, ?_, k w G1 A3 ((s1.trans (.on s1.v e2)).trans (.on (s1.v.trans e2) e3)) z1 (s1.f l (by rw [hl]; simp) hg) l3⟩
    unfold ixN
    simp
    omega
/-- an if without else: what holds behind it is said once -/
theorem a_whenR {tz : TS} (Pm : L2.St → Hp → Prop) (h : Et K t σ H b) (hr : ∀ σ' H', Pm σ' H' → tz D σ' H') (h1 : (∀ σ' H', Pm σ' H' → tz D σ' H') → b = true → ∀ H1, Ex H H1 → tu { D with nx := tz D } σ H1) (h2 : b = false → ∀ H1, Ex H H1 → Pm σ H1) : tSeq (tIfS t tu tNext) tz D σ H :=
  a_when h (h1 hr) fun hb H1 e1 => hr σ H1 (h2 hb H1 e1)
/-- o[j] = [.., ..], flat items -/
theorem s_setflat {l : Addr} {us xs : List V} {j : Nat} {tr : TA} (hl : A l = some (.lst us)) (hg : G l = none) (hA : Ex G A) (h : Era K tr σ A (xs.map Dd.v)) (hz : xs.length ≤ 100000) (ha : Er K to σ A (.v (.ref l))) (hi : Er K ti σ A (.i (j : Int))) (hj : j < us.length)
    (k : ∀ p G' A', Step G A G' A' → G' p = some (.lst xs) → G' l = none → A' l = some (.lst us) → D.nx σ (upd A' l (.lst (us.set j (.ref p))))) : tAsg (tLst tr) (gSub to ti rSetL) D σ A :=
  h A (Ex.refl A) _ fun ws A1 e1 z => by
    have ew := flat_all z
    subst ew
    refine ⟨sz_of hz, fun p hp => ?_⟩
    have s1 : Step G A (upd G p (.lst ws)) (upd A1 p (.lst ws)) := (Step.on hA e1).trans (.new (hA.trans e1) hp)
    refine ha _ s1.a _ fun v A2 e2 zv => hi A2 (s1.a.trans e2) _ fun i A3 e3 zi => ?_
    have ev : v = .ref l := zv
    have ei : i = .int (j : Int) := zi
    subst ev
    subst ei
    have l3 := e3 l _ (e2 l _ (s1.a l _ hl))
    exact ⟨l, us, (j : Int), j, rfl, rfl, l3, ixN_nat hj, k p _ A3 ((s1.trans (.on s1.v e2)).trans (.on (s1.v.trans e2) e3)) upd_same (s1.f l (by rw [hl]; simp) hg) l3⟩
/-- items that are read as lists where they stand as lists of ours -/
theorem isE_map {α : Type} {f g : α → Dd} (h : ∀ x H v, Is K H (f x) v → Is K H (g x) v) : ∀ {l : List α} {vs : List V}, IsE K H (l.map f) vs → IsE K H (l.map g) vs
  | [], _, h1 => h1
  | x :: r, _, h1 => by
    obtain ⟨y, s, rfl, a, b⟩ := h1
    exact ⟨y, s, rfl, h x H y a, isE_map h b⟩
theorem isE_set : ∀ {ds : List Dd} {vs : List V} {i : Nat} {d : Dd} {w : V}, IsE K H ds vs → Is K H d w → IsE K H (ds.set i d) (vs.set i w)
  | [], _, i, d, w, h, _ => by rw [show _ = [] from h]; rfl
  | x :: r, _, 0, d, w, h, z => by
    obtain ⟨y, s, rfl, a, b⟩ := h
    exact ⟨w, s, rfl, z, b⟩
  | x :: r, _, i + 1, d, w, h, z => by
    obtain ⟨y, s, rfl, a, b⟩ := h
    exact ⟨y, s.set i w, rfl, a, isE_set (i := i) b z⟩
/-- a place of a list of any items -/
theorem er_place {i : Nat} (h : Er K tl σ H (.L ds)) (h2 : Er K ta σ H (.i (i : Int))) (hd : ds[i]? = some d) : Er K (tOp (rIxL K) tl ta) σ H d := er_op h h2 (ro_ixLd hd)
end
/-- a stock's pairs as lists -/
def stD (st : List (List Nat × List Nat)) : List Dd := st.map fun p => Dd.L [.s (S p.1), .s (S p.2)]
theorem stD_at {st : List (List Nat × List Nat)} {i : Nat} {p : List Nat × List Nat} (h : st[i]? = some p) : (stD st)[i]? = some (Dd.L [.s (S p.1), .s (S p.2)]) := by
  rw [stD, List.getElem?_map, h]
  rfl
theorem stD_of {st : List (List Nat × List Nat)} {i : Nat} {d : Dd} (h : (stD st)[i]? = some d) : ∃ p, st[i]? = some p ∧ d = Dd.L [.s (S p.1), .s (S p.2)] := by
  rw [stD, List.getElem?_map] at h
  cases q : st[i]? with
  | none => rw [q] at h; cases h
  | some p => rw [q] at h; exact ⟨p, rfl, (Option.some.inj h).symm⟩
theorem stD_len {st : List (List Nat × List Nat)} : (stD st).length = st.length := by simp [stD]
end Mi

set_option maxHeartbeats 2000000
namespace Mi
open PySem PySem.Spec PyProof.Rows L2 Evl
theorem cr_isiT_k {X : Cx} {K : PySem.W.Frag} (h : X.K = K := by rfl) : CallR X (.builtin "isinstance") (rIsiT K) := h ▸ call_isiT
section
variable {K : PySem.W.Frag} {σ : L2.St} {G A H : Hp} {te tl : TE} {d : Dd} {ds : List Dd} {x : V}
/-- isinstance(x, (T1, T2)) -/
theorem er_isiT {n1 n2 : String} {b : Bool} (t : Value) (h : Er K te σ H d) (ht : ∀ H1 v, Is K H1 d v → TyX K H1 v t) (hk : PySem.W.kitAny K t [.type n1, .type n2] = some b) : Er K (tCB (rIsiT K) (tCons te (tCons (tTup (tCons (tC (.ty n1)) (tCons (tC (.ty n2)) tNil))) tNil))) σ H (.b b) := fun H1 e Q q =>
  h H1 e _ fun v H2 e2 z => ⟨sz_of (by simp), fun p hp => ⟨v, p, [.ty n1, .ty n2], t, [.type n1, .type n2], b, rfl, upd_same, .cons (.ty n1) (.cons (.ty n2) .nil), ht _ _ (z.mono (Ex.new hp)), hk, q _ _ (e2.trans (Ex.new hp)) rfl⟩⟩
/-- what a variable holds is walked, a list or a tuple -/
def iSeqV (K : PySem.W.Frag) (i : Nat) : TI := fun σ H R => ∃ a, σ[i]? = some (some (.ref a)) ∧ (((∃ xs, SqL K H a xs) ∧ R (Itl K a) H) ∨ ((∃ xs, SqT K H a xs) ∧ R (Itt K a) H))
theorem pi_seqV {X : Cx} {tg l : Expr} {i : Nat} (hl : PE X l (tVar i)) (h : X.K = K := by rfl) : PI X tg l (iSeqV K i) := by
  subst h
  refine ⟨fun pins s σ H R I h => ?_⟩
  obtain ⟨a, e, h | h⟩ := h
  · exact (pi_list hl).run pins s σ H R I ⟨.ref a, e, a, rfl, h.1, h.2⟩
  · exact (pi_tup hl).run pins s σ H R I ⟨.ref a, e, a, rfl, h.1, h.2⟩
theorem if_seqL {i : Nat} (hx : σ[i]? = some (some x)) (h : Is K G (.L ds) x) : Itf K (iSeqV K i) σ G ds := fun G1 A e1 e2 R r => by
  have q := if_list (ef_var hx h) G1 A e1 e2 R r
  obtain ⟨y, hy, a, rfl, q1, q2⟩ := q
  exact ⟨a, hy, .inl ⟨q1, q2⟩⟩
theorem if_seqU {i : Nat} (hx : σ[i]? = some (some x)) (h : Is K G (.U ds) x) : Itf K (iSeqV K i) σ G ds := fun G1 A e1 e2 R r => by
  have q := if_tup (ef_var hx h) G1 A e1 e2 R r
  obtain ⟨y, hy, a, rfl, q1, q2⟩ := q
  exact ⟨a, hy, .inr ⟨q1, q2⟩⟩
theorem ty_Ld {v : V} (h : Is K H (.L ds) v) : TyX K H v (.type "list") := by
  obtain ⟨p, vs, rfl, hp, _⟩ := h
  exact ty_l ⟨p, rfl, hp⟩
theorem ty_Ud {v : V} (h : Is K H (.U ds) v) : TyX K H v (.type "tuple") := by
  obtain ⟨p, vs, rfl, hp, _⟩ := h
  exact ty_u ⟨p, rfl, hp⟩
end
/-! ### texts, whole numbers, lists and tuples of such, nested -/
mutual
def tupD : Dd → Dd
  | .L ds => .U (tupL ds)
  | .U ds => .U (tupL ds)
  | d => d
def tupL : List Dd → List Dd
  | [] => []
  | d :: r => tupD d :: tupL r
end
mutual
def depD : Dd → Nat
  | .L ds => depL ds + 1
  | .U ds => depL ds + 1
  | _ => 0
def depL : List Dd → Nat
  | [] => 0
  | d :: r => max (depD d) (depL r)
end
mutual
def okD : Dd → Prop
  | .v (.str _) => True
  | .v (.int _) => True
  | .L ds => okL ds ∧ ds.length ≤ 1000
  | .U ds => okL ds ∧ ds.length ≤ 1000
  | _ => False
def okL : List Dd → Prop
  | [] => True
  | d :: r => okD d ∧ okL r
end
theorem tupL_map : ∀ ds : List Dd, tupL ds = ds.map tupD
  | [] => rfl
  | d :: r => by rw [tupL, tupL_map r]; rfl
theorem okL_at : ∀ {ds : List Dd} {i : Nat} {d : Dd}, okL ds → ds[i]? = some d → okD d
  | [], _, _, _, h => by simp at h
  | x :: r, 0, d, h, e => Option.some.inj e ▸ h.1
  | x :: r, i + 1, d, h, e => okL_at (i := i) h.2 e
theorem depL_at : ∀ {ds : List Dd} {i : Nat} {d : Dd}, ds[i]? = some d → depD d ≤ depL ds
  | [], _, _, h => by simp at h
  | x :: r, 0, d, e => by
    rw [← Option.some.inj e]
    exact Nat.le_max_left _ _
  | x :: r, i + 1, d, e => Nat.le_trans (depL_at (i := i) e) (Nat.le_max_right _ _)
/-- a def of which nothing is asked -/
theorem At.none {P : Program} {w : World} {K : PySem.W.Frag} {mg : Str → Option Value} {base : Heap} {x : Str} {st : Stmt} {ps : List Str} {T : Type} {pre : T → Prop} {args : T → List Dd} {ret : T → Dd} (h : At K mg x st ps) (hn : ∀ a, ¬ pre a) : Has P w K mg base 0 x ps (spF K pre args ret) := by
  obtain ⟨f, fd, hm, F, b0, b1, b2⟩ := h.ex
  refine ⟨f, fd, hm, F.kp, ⟨fun vs H Q E hsp => ?_, fun A outer s H args us vs Q E hr he hb hv hsp => ?_⟩, b0, b1, b2⟩
  · obtain ⟨a, hp, _⟩ := hsp
    exact absurd hp (hn a)
  · obtain ⟨a, hp, _⟩ := hsp
    exact absurd hp (hn a)
end Mi

set_option maxHeartbeats 2000000
namespace Mi
open PySem PySem.Spec PyProof.Rows L2 Evl
/-! ### great numbers -/
def CDivWN (i j : Int) : Prop := j ≠ 0 ∧ j.natAbs.log2 < 9000
theorem op_fdivWN {X : Cx} : OpR X (binaryOp .FloorDiv) (rI CDivWN fun i j => .int (i.fdiv j)) := opI fun _ _ _ _ _ _ _ hc q => floordiv_int hc.1 q (.inl (PyProof.noPylong_of_log2 hc.2))
def Bd (n : Nat) (x : Int) : Prop := x.natAbs < 2 ^ n
theorem Bd.mono {n m : Nat} {x : Int} (h : Bd n x) (e : n ≤ m) : Bd m x := Nat.lt_of_lt_of_le h (Nat.pow_le_pow_right (by decide) e)
theorem Bd.mul {n m : Nat} {x y : Int} (h : Bd n x) (g : Bd m y) : Bd (n + m) (x * y) := wide_lt h g
theorem Bd.add {n : Nat} {x y : Int} (h : Bd n x) (g : Bd n y) : Bd (n + 1) (x + y) := by
  unfold Bd at *
  rw [Nat.pow_succ]
  omega
theorem Bd.sub {n : Nat} {x y : Int} (h : Bd n x) (g : Bd n y) : Bd (n + 1) (x - y) := by
  unfold Bd at *
  rw [Nat.pow_succ]
  omega
theorem Bd.neg {n : Nat} {x : Int} (h : Bd n x) : Bd n (-x) := by
  unfold Bd at *
  omega
theorem Bd.le {n : Nat} {x y : Int} (h : Bd n x) (g : y.natAbs ≤ x.natAbs) : Bd n y := Nat.lt_of_le_of_lt g h
section
variable {K : PySem.W.Frag} {σ : L2.St} {H H0 H' : Hp} {te tl ta tb tc : TE} {t u : TT} {tr : TA} {d d0 d1 d2 : Dd} {D : Ends} {tu tw tz : TS} {x y : V} {ds es : List Dd} {b : Bool}
theorem ro_mulW {i j : Int} {n m : Nat} (h : Bd n i) (g : Bd m j) (h0 : 0 < n) (h1 : 0 < m) (e : n + m ≤ 1000000) : Ro K (rI CMulW fun i j => .int (i * j)) (.i i) (.i j) (.i (i * j)) := ro_I (wide_mul h g h0 h1 e)
theorem ro_divWN {i j : Int} {n : Nat} (h0 : j ≠ 0) (h : Bd n j) (hn : 0 < n) (h9 : n ≤ 9000) : Ro K (rI CDivWN fun i j => .int (i.fdiv j)) (.i i) (.i j) (.i (i.fdiv j)) := ro_I ⟨h0, Nat.lt_of_lt_of_le (PySem.Flt.log2_lt_of hn h) h9⟩
theorem ro_divW {i j : Int} (h : 0 < j) (h2 : j < 4611686018427387904) : Ro K (rI CDivW fun i j => .int (i / j)) (.i i) (.i j) (.i (i / j)) := ro_I (wide_div (b := 62) h (by omega) (by decide) (by decide))
theorem er_un {r : V → Hp → VK → Prop} (h : Er K te σ H d1) (hr : ∀ x H1, Is K H1 d1 x → ∀ Q : VK, (∀ v H2, Ex H1 H2 → Is K H2 d v → Q v H2) → r x H1 Q) : Er K (tUn r te) σ H d := fun H1 e Q q =>
  h H1 e _ fun v H2 e2 z => hr v H2 z Q fun w H3 e3 z3 => q w H3 (e2.trans e3) z3
theorem er_neg {i : Int} (h : Er K te σ H (.i i)) : Er K (tUn (rU fun i => .int (-i)) te) σ H (.i (-i)) := er_un h fun x H1 z Q q => ⟨i, z, q _ H1 (Ex.refl H1) rfl⟩
theorem ro_1012 : Ro K (rI CPow fun i j => .int (i ^ j.toNat)) (.i 10) (.i 12) (.i 1000000000000) := ro_I (K := K) (C := CPow) (g := fun i j => .int (i ^ j.toNat)) (i := 10) (j := 12) ⟨by decide, by decide, by decide⟩
theorem ro_1015 : Ro K (rI CPow fun i j => .int (i ^ j.toNat)) (.i 10) (.i 15) (.i 1000000000000000) := ro_I (K := K) (C := CPow) (g := fun i j => .int (i ^ j.toNat)) (i := 10) (j := 15) ⟨by decide, by decide, by decide⟩
/-! ### is, for truth values; gcd; abs -/
theorem ro_notBl {a b : Bool} : Ro K rNotB (.b a) (.b b) (.b (!decide (a = b))) := by
  rintro _ _ H1 rfl rfl Q q
  exact ⟨a, b, rfl, rfl, q _ H1 (Ex.refl H1) rfl⟩
theorem ro_isBl {a b : Bool} : Ro K rIsB (.b a) (.b b) (.b (decide (a = b))) := by
  rintro _ _ H1 rfl rfl Q q
  exact ⟨a, b, rfl, rfl, q _ H1 (Ex.refl H1) rfl⟩
def gcdI (a b : Int) : Int := ((Nat.gcd a.natAbs b.natAbs : Nat) : Int)
theorem rc_gcd {a b : Int} : Rc K rGcd [.i a, .i b] (.i (gcdI a b)) := by
  rintro _ H1 (_ | ⟨rfl, _ | ⟨rfl, _ | _⟩⟩) Q q
  exact ⟨a, b, rfl, q _ H1 (Ex.refl H1) rfl⟩
def rAbs : List V → Hp → VK → Prop := fun xs H Q => ∃ i, xs = [.int i] ∧ Q (.int (if i < 0 then -i else i)) H
theorem cr_abs {X : Cx} : CallR X (.builtin "abs") rAbs := call_abs
theorem rc_abs {i : Int} : Rc K rAbs [.i i] (.i ((i.natAbs : Nat) : Int)) := by
  rintro _ H1 (_ | ⟨rfl, _ | _⟩) Q q
  exact ⟨i, rfl, q _ H1 (Ex.refl H1) (by
    show V.int _ = V.int _
    congr 1
    split <;> omega)⟩
/-! ### lists or tuples -/
inductive Sq : Dd → List Dd → Prop where
  | N (ds : List Dd) : Sq (.N ds) ds
  | U (ds : List Dd) : Sq (.U ds) ds
def rIxE (K : PySem.W.Frag) : R2 := fun x y H Q => rIxL K x y H Q ∨ rIxT K x y H Q
theorem ix_seq_k {X : Cx} (h : X.K = K := by rfl) : IxR X (rIxE K) := h ▸ IxR.or ix_list ix_tup
theorem ro_ixE {i : Nat} (h : Sq d0 ds) (hd : ds[i]? = some d) : Ro K (rIxE K) d0 (.i (i : Int)) d := by
  cases h with
  | N => exact fun v w H1 a b Q q => .inl (ro_ixNd hd v w H1 a b Q q)
  | U => exact fun v w H1 a b Q q => .inr (ro_ixUd hd v w H1 a b Q q)
theorem rc_lenE (h : Sq d0 ds) : Rc K (rLenS K) [d0] (.i (ds.length : Int)) := by
  cases h with
  | N => exact rc_lenNd
  | U => exact rc_lenUd
def gSeq (K : PySem.W.Frag) (n : Nat) (t : TGs) : TG := fun v σ H Q => gTup K n t v σ H Q ∨ gLst K n t v σ H Q
theorem pg_seq {X : Cx} {pos : Pos} {es : List Expr} {k : Nat} {t : TGs} {n : Nat} (hc : X.calm = true) (h : PGs X es t) (hK : X.K = K := by rfl)
    (hn : (assignEach es X.env).length = n := by rfl) (hst : (assignEach es X.env).findIdx? (·.1) = none := by rfl) : PG X (.Tuple es k pos) (gSeq K n t) := by
  subst hK
  refine ⟨fun pins s σ H v u Q I r hw => ?_⟩
  rcases hw with hw | hw
  · exact (pg_tup hc h hn hst).run pins s σ H v u Q I r hw
  · exact (pg_lst hc h hn hst).run pins s σ H v u Q I r hw
theorem g_pair {j1 j2 : Nat} {v : V} {Q : L2.St → Hp → Prop} (h : Sq d0 [d1, d2]) (hv : Is K H d0 v) (k : ∀ v1 v2, Is K H d1 v1 → Is K H d2 v2 → Q ((σ.set j1 (some v1)).set j2 (some v2)) H) : gSeq K 2 (gCons (gName j1) (gCons (gName j2) gNil)) v σ H Q := by
  cases h with
  | N =>
    obtain ⟨T, vs, rfl, hT, x, r, rfl, hx, y, r2, rfl, hy, hr⟩ := hv
    have er : r2 = [] := hr
    subst er
    exact .inr ⟨T, [x, y], rfl, sq_of hT, rfl, x, [y], rfl, y, [], rfl, rfl, k x y hx hy⟩
  | U =>
    obtain ⟨T, vs, rfl, hT, x, r, rfl, hx, y, r2, rfl, hy, hr⟩ := hv
    have er : r2 = [] := hr
    subst er
    exact .inl ⟨T, [x, y], rfl, hT, rfl, x, [y], rfl, y, [], rfl, rfl, k x y hx hy⟩
/-- (x, y) = a pair, both flat -/
theorem a_pair {i j : Nat} {xa xb : V} (h : Er K te σ H d0) (hs : Sq d0 [.v xa, .v xb]) (k : ∀ H1, Ex H H1 → tz D ((σ.set i (some xa)).set j (some xb)) H1) : tSeq (tAsg te (gSeq K 2 (gCons (gName i) (gCons (gName j) gNil)))) tz D σ H :=
  h H (Ex.refl H) _ fun v H1 e z => g_pair hs z fun v1 v2 h1 h2 => by
    have e1 : v1 = xa := h1
    have e2 : v2 = xb := h2
    subst e1
    subst e2
    exact k H1 e
/-- both of any kind -/
theorem a_pairD {i j : Nat} (h : Er K te σ H d0) (hs : Sq d0 [d1, d2]) (k : ∀ v1 v2 H1, Ex H H1 → Is K H1 d1 v1 → Is K H1 d2 v2 → tz D ((σ.set i (some v1)).set j (some v2)) H1) : tSeq (tAsg te (gSeq K 2 (gCons (gName i) (gCons (gName j) gNil)))) tz D σ H :=
  h H (Ex.refl H) _ fun v H1 e z => g_pair hs z fun v1 v2 h1 h2 => k v1 v2 H1 e h1 h2
/-! ### dicts that nobody reads -/
theorem er_d0 : Er K tDNewK σ H .D := fun H1 _ _ q p hp => q _ _ (Ex.new hp) ⟨p, [], rfl, upd_same⟩
theorem er_d2 {a b c e : Int} : Er K (tDisp [(tC (.int a), tC (.int b)), (tC (.int c), tC (.int e))]) σ H .D := fun H1 _ _ q p hp =>
  ⟨upd_same, [(.inl a, .int b), (.inl c, .int e)], rfl, by simp, q _ _ (Ex.mut (Ex.new hp) hp) ⟨p, _, rfl, upd_same⟩⟩
/-! ### a loop over a list of ours, its items of any kind -/
theorem b_forN {j : Nat} (h : Er K tl σ H (.N ds)) (Pv : Nat → L2.St → Hp → Prop) (h0 : ∀ H1, Ex H H1 → Pv 0 σ H1)
    (hs : ∀ H1, Ex H H1 → ∀ i d v σ' H', ds[i]? = some d → (∀ H2, Ex H1 H2 → Is K H2 d v) → Pv i σ' H' → Ex H1 H' → tu { D with nx := fun σ2 H2 => Pv (i + 1) σ2 H2 ∧ Ex H1 H2, ct := fun σ2 H2 => Pv (i + 1) σ2 H2 ∧ Ex H1 H2, bk := tz D } (σ'.set j (some v)) H')
    (hd : ∀ σ' H', Ex H H' → Pv ds.length σ' H' → tz D σ' H') : tSeq (tFor (iList K tl) (gName j) tu) tz D σ H :=
  h H (Ex.refl H) _ fun v H1 e1 ⟨p, vs, ep, hp, hE⟩ => by
    subst ep
    have z := isE_all.mp hE
    have len := z.len
    refine ⟨p, rfl, ⟨vs, sq_of hp⟩, ?_⟩
    refine for_list (D := { D with nx := tz D }) (xs := vs) (fun i σ' H' => Pv i σ' H' ∧ Ex H1 H') ⟨h0 _ e1, Ex.refl _⟩ (fun i σ' H' _ q => sq_of (q.2 p _ hp)) (fun i v σ' H' hv q => ?_) fun σ' H' q => hd σ' H' (e1.trans q.2) (by rw [len]; exact q.1)
    obtain ⟨d, hd', hi⟩ := isAll_at z hv
    exact hs _ e1 i d v σ' H' hd' (fun H2 e3 => hi.mono e3) q.1 q.2
theorem b_forR {ta : TA} {j : Nat} {n : Nat} (h : Era K ta σ H [.v (.int (n : Int))]) (hn : n ≤ 2000000) (Pv : Nat → L2.St → Hp → Prop) (h0 : ∀ H1, Ex H H1 → Pv 0 σ H1)
    (hs : ∀ (i : Nat) σ' H', i < n → Pv i σ' H' → tu { D with nx := Pv (i + 1), ct := Pv (i + 1), bk := tz D } (σ'.set j (some (.int (i : Int)))) H') (hd : ∀ σ' H', Pv n σ' H' → tz D σ' H') : tSeq (tFor (iRng1 ta) (gName j) tu) tz D σ H :=
  h H (Ex.refl H) _ fun vs H1 e z => by
    rcases z with _ | ⟨rfl, _ | _⟩
    exact ⟨(n : Int), rfl, by omega, by omega, for_range (D := { D with nx := tz D }) (lo := 0) (n := (n : Int).toNat) Pv (h0 H1 e) (fun i σ' H' hi p => by
      have e0 : (0 : Int) + (i : Int) = (i : Int) := Int.zero_add _
      show tu { D with nx := Pv (i + 1), ct := Pv (i + 1), bk := tz D } (σ'.set j (some (.int ((0 : Int) + (i : Int))))) H'
      rw [e0]
      exact hs i σ' H' (by omega) p) (by rw [Int.toNat_natCast]; exact hd)⟩
/-! ### deep == of pairs of whole numbers -/
theorem ro_eqUU {a b c e : Int} : Ro K (rEqD K) (.U [.i a, .i b]) (.U [.i c, .i e]) (.b (decide ([a, b] = [c, e]))) := fun x y H1 h1 h2 => ro_eqU (ns := [a, b]) (ms := [c, e]) x y H1 (Is.U2u (xs := vis [a, b]) h1) (Is.U2u (xs := vis [c, e]) h2)
theorem ro_eqNN {a b c e : Int} : Ro K (rEqD K) (.N [.i a, .i b]) (.N [.i c, .i e]) (.b (decide ([a, b] = [c, e]))) := fun x y H1 h1 h2 => ro_eqL (ns := [a, b]) (ms := [c, e]) x y H1 (Is.N2n (xs := vis [a, b]) h1).n2l (Is.N2n (xs := vis [c, e]) h2).n2l
theorem dp_pair {a b : Int} {H1 : Hp} {x : V} (h : Is K H1 (.N [.i a, .i b]) x) : Dp K H1 x (.list [.int a, .int b]) := by
  obtain ⟨p, rfl, hp⟩ := (Is.N2n (xs := vis [a, b]) h).n2l
  exact .lst hp (.cons (.int a) (.cons (.int b) .nil))
theorem dp_pairs {a b c e : Int} {H1 : Hp} {x : V} (h : Is K H1 (.N [.N [.i a, .i b], .N [.i c, .i e]]) x) : Dp K H1 x (.list [.list [.int a, .int b], .list [.int c, .int e]]) := by
  obtain ⟨p, vs, rfl, hp, x, r, rfl, hx, y, r2, rfl, hy, hr⟩ := h
  have er : r2 = [] := hr
  subst er
  exact .lst (sq_of hp) (.cons (dp_pair hx) (.cons (dp_pair hy) .nil))
theorem ro_eqPP {a b c e : Int} : Ro K (rEqD K) (.N [.N [.i a, .i b], .N [.i c, .i e]]) (.N [.N [.i a, .i b], .N [.i c, .i e]]) (.b true) := by
  intro x y H1 h1 h2 Q q
  refine ⟨_, _, dp_pairs h1, dp_pairs h2, ?_, ?_, q _ H1 (Ex.refl H1) ?_⟩
  · simp [SeqAt.shaped, PyData.canLay0, PyData.depth, PyData.canLayAll0, PyData.depthAll]
  · simp [SeqAt.shaped, PyData.canLay0, PyData.depth, PyData.canLayAll0, PyData.depthAll]
  · show V.bl _ = V.bl true
    simp [PyData.eqv, PyData.eqvAll]
end
/-! ### kinds of values -/
def tyN : Dd → String
  | .v (.int _) => "int"
  | .v (.bl _) => "bool"
  | .v .non => "NoneType"
  | .v (.str _) => "str"
  | .N _ => "list"
  | .U _ => "tuple"
  | .D => "dict"
  | _ => "?"
theorem ty_of {K : PySem.W.Frag} {H : Hp} : ∀ {d : Dd} {v : V}, tyN d ≠ "?" → Is K H d v → TyX K H v (.type (tyN d))
  | .v (.int i), _, _, h => by rw [show _ = V.int i from h]; exact .base (.int i)
  | .v (.bl b), _, _, h => by rw [show _ = V.bl b from h]; exact .base (.bl b)
  | .v .non, _, _, h => by rw [show _ = V.non from h]; exact .base .non
  | .v (.str x), _, _, h => by rw [show _ = V.str x from h]; exact .base (.str x)
  | .N ds, _, _, h => ty_Ld h.N2L
  | .U ds, _, _, h => ty_Ud h
  | .D, _, _, h => by obtain ⟨p, kvs, rfl, e⟩ := h; exact .base (.dK e)
  | .v (.byt _), _, n, _ => absurd rfl n
  | .v (.flt _), _, n, _ => absurd rfl n
  | .v (.ref _), _, n, _ => absurd rfl n
  | .v (.ty _), _, n, _ => absurd rfl n
  | .P _, _, n, _ => absurd rfl n
  | .l _, _, n, _ => absurd rfl n
  | .n _, _, n, _ => absurd rfl n
  | .u _, _, n, _ => absurd rfl n
  | .L _, _, n, _ => absurd rfl n
theorem tyN_cases : ∀ {d : Dd}, tyN d ≠ "?" → tyN d = "int" ∨ tyN d = "bool" ∨ tyN d = "NoneType" ∨ tyN d = "str" ∨ tyN d = "list" ∨ tyN d = "tuple" ∨ tyN d = "dict"
  | .v (.int i), _ => .inl rfl
  | .v (.bl b), _ => .inr (.inl rfl)
  | .v .non, _ => .inr (.inr (.inl rfl))
  | .v (.str x), _ => .inr (.inr (.inr (.inl rfl)))
  | .N ds, _ => .inr (.inr (.inr (.inr (.inl rfl))))
  | .U ds, _ => .inr (.inr (.inr (.inr (.inr (.inl rfl)))))
  | .D, _ => .inr (.inr (.inr (.inr (.inr (.inr rfl)))))
  | .v (.byt _), n => absurd rfl n
  | .v (.flt _), n => absurd rfl n
  | .v (.ref _), n => absurd rfl n
  | .v (.ty _), n => absurd rfl n
  | .P _, n => absurd rfl n
  | .l _, n => absurd rfl n
  | .n _, n => absurd rfl n
  | .u _, n => absurd rfl n
  | .L _, n => absurd rfl n
theorem kit2' {K : PySem.W.Frag} {n m1 m2 : String} {b1 b2 : Bool} (h1 : kitB n m1 = some b1) (h2 : kitB n m2 = some b2) : PySem.W.kitAny K (.type n) [.type m1, .type m2] = some (b1 || b2) := by
  have e1 : PySem.W.kitOne K (.type n) (.type m1) = some b1 := kit_ty h1
  have e2 : PySem.W.kitOne K (.type n) (.type m2) = some b2 := kit_ty h2
  unfold PySem.W.kitAny
  rw [e1]
  cases b1 with
  | true => rfl
  | false =>
    show PySem.W.kitAny K (.type n) [.type m2] = some b2
    unfold PySem.W.kitAny
    rw [e2]
    cases b2 with
    | true => rfl
    | false => rfl
theorem kit_int {d : Dd} (h : tyN d ≠ "?") : kitB (tyN d) "int" = some (tyN d == "int" || tyN d == "bool") := by
  rcases tyN_cases h with e | e | e | e | e | e | e <;> rw [e] <;> decide +kernel
theorem kit_bool {d : Dd} (h : tyN d ≠ "?") : kitB (tyN d) "bool" = some (tyN d == "bool") := by
  rcases tyN_cases h with e | e | e | e | e | e | e <;> rw [e] <;> decide +kernel
theorem kit_list {d : Dd} (h : tyN d ≠ "?") : kitB (tyN d) "list" = some (tyN d == "list") := by
  rcases tyN_cases h with e | e | e | e | e | e | e <;> rw [e] <;> decide +kernel
theorem kit_tuple {d : Dd} (h : tyN d ≠ "?") : kitB (tyN d) "tuple" = some (tyN d == "tuple") := by
  rcases tyN_cases h with e | e | e | e | e | e | e <;> rw [e] <;> decide +kernel
section
variable {K : PySem.W.Frag} {d : Dd}
theorem rc_isiD {n : String} {b : Bool} (h : tyN d ≠ "?") (hk : kitB (tyN d) n = some b) : Rc K (rIsi K) [d, .v (.ty n)] (.b b) := rc_isi (.type (tyN d)) (fun _ _ z => ty_of h z) (kit_ty hk)
end
end Mi

set_option maxHeartbeats 2000000
namespace Mi
open PySem PySem.Spec PyProof.Rows L2 Evl
/-! ### iter(t), t a tuple -/
abbrev itTup (t : Addr) (i : Nat) : Obj := { cls := .type "tuple_iterator", data := .fields #[.ref t, .int i 0] }
def TupO (t it : Addr) (i : Nat) : HO := .ext fun h => h.get? it = some (itTup t i)
theorem tupO_ok {P : Program} {w : World} {H : Hp} {h : Heap} {t it : Addr} {i : Nat} (e : h.get? it = some (itTup t i)) : ObjOk P w H h it (TupO t it i) := ⟨e, ⟨_, e⟩, fun h1 h2 q k => k _ q⟩
theorem call_iter_tup {prog : Program} {w : World} {A : Around} {E : Value → Shared → Prop} {s : Shared} {t : Addr} {items : Array Value} {Q : Value → Shared → Prop} (ht : s.heap.IsTuple t items) (h : Q (.ref s.heap.objs.size) { s with heap := s.heap.push (itTup t 0) }) : wpAny (model prog w) A (call (.builtin "iter") [.ref t]) Q E s := by
  refine Calls.call_function_entry (by decide +kernel) (by decide +kernel) PySem.W.kdk_entry_iter (PySem.W.kdk_args_iter _) ?_
  unfold Builtin.«iter»
  refine wpAny_bind (m := someArgs "iter" 1 2 _) (wpAny_of_eq (a := [Value.ref t]) (by first | rfl | kernel_rfl!) ?_)
  show wpAny _ _ (pyIter (.ref t) >>= _) _ _ _
  refine wpAny_bind (wpAny_pyIter_tuple ht ?_)
  exact wpAny_pure ⟨_, rfl, h⟩
def rIterT (K : PySem.W.Frag) (n : Nat) : List V → Hp → VK → Prop := fun xs H Q => ∃ (l : Addr) (zs : List V), xs = [.ref l] ∧ SqT K H l zs ∧ ∀ it, H it = Option.none → n ≤ it → Q (.ref it) (upd H it (TupO l it 0))
theorem cr_iterT {X : Cx} {K : PySem.W.Frag} {n : Nat} (hK : X.K = K := by rfl) (hn : X.s_0.heap.objs.size = n := by rfl) : CallR X (.builtin "iter") (rIterT K n) := by
  subst hK hn
  intro pins s σ H xs us Q I r h
  obtain ⟨l, zs, rfl, hq, q⟩ := h
  obtain ⟨u, rfl, ru⟩ := vals1 r
  cases ru
  obtain ⟨its, rv, pl, hz⟩ := I.tuple hq
  refine call_iter_tup (show s.heap.IsTuple l its.toArray from pl) ?_
  exact ⟨.ref s.heap.objs.size, _, I.laid (t' := s.toks) (fun b u e => Heap.get?_push_of_some _ e) (Nat.le_refl _) (tupO_ok (Heap.get?_push_size _ rfl)), rfl, q _ (I.hok.fresh (Nat.le_refl _)) I.sz⟩
/-! ### __iter__ that answers iter(self.f), f a tuple: the iterator is young -/
section
variable {P : Program} {w : World} {K : PySem.W.Frag} {mg : Str → Option Value} {base : Heap} {k : Nat} {f : Addr} {fd : FuncData} {N : List Str} {st : Stmt} {fl : Str} {x0 qual : Str}
/-- what is asked of such a def -/
structure IterFn (P : Program) (w : World) (K : PySem.W.Frag) (mg : Str → Option Value) (base : Heap) (k : Nat) (f : Addr) (C : Addr) (fl : Str) : Prop where
  it : PySem.W.findIn K (.ref C) "__iter__" = some (some (.ref f))
  fn : PySem.W.isFn K (.ref f) = true
  run : ∀ (A : Around) (outer : List Env) (s : Shared) (H : Hp) (x dx : Addr) (fs : List (Str × V)) (a : Addr) (zs : List V), Room k A → Env0 P w K mg base A outer s H → H x = some (.ins C dx fs) → fs.lookup fl = some (.ref a) → SqT K H a zs →
    codeAny (model P w) A (.call (.ref f) ⟨[.ref x], []⟩) (CR CX0 outer P w H s (fun v H' => ∃ it, v = .ref it ∧ s.heap.objs.size ≤ it ∧ H it = none ∧ H' = upd H it (TupO a it 0)) E0) s
theorem iter_mk {C : Addr} (F : Fun K x0 qual st f fd) (S : FnScope N ["self"] (defScope st)) (hi : PySem.W.findIn K (.ref C) "__iter__" = some (some (.ref f))) (hfn : PySem.W.isFn K (.ref f) = true) (cl : Cls K C) (na : NoAttr K C fl) (hN : N = (["self"] : List Str))
    (hb : Binds K fd ["self"] [])
    (hbody : ∀ (cdv : Value) (A : Around) (outer : List Env) (s : Shared) (H : Hp), Room k (A.deeper (envOfC qual (defScope st) s.heap.objs.size f cdv)) →
      PSs (cxOf CX0 P w K mg base N qual (defScope st) f cdv A outer s H E0).nox (defBody st) (tRet (tCB (rIterT K s.heap.objs.size) (tCons (tFld K (tVar 0) fl) tNil)))) : IterFn P w K mg base (k + 1) f C fl := by
  obtain ⟨oc, od, kV, doc, pm, an, cdv, ct, osl, rfl, lk, hcd⟩ := F.ex
  refine ⟨hi, hfn, fun A outer s H x dx fs a zs hr e0 hx hf hz => ?_⟩
  have KX : K.In s.heap := e0.mod.kin.keeps fun b o e => (e0.bs b o e).1
  have lim : s.heap.NoLimit := e0.mod.nolimit.keeps fun b o e => (e0.bs b o e).1
  have hkind : ∀ y ∈ (["self"] : List Str).zip [Value.ref x], (defScope st).names.lookup y.1 = some .local ∨ ((defScope st).names.lookup y.1 = some .cell ∧ ((cellsFrom (s.heap.objs.size + 1) (defScope st).names []).lookup y.1).isSome = true) := fun ⟨n, v⟩ hy => by
    rcases S.par n (List.of_mem_zip hy).1 with q | q
    · exact .inl q
    · exact .inr ⟨q, PySem.W.cellsFrom_some _ _ _ (.inl q)⟩
  have bd := hb s [.ref x] KX rfl
  rw [List.append_nil] at bd
  refine codeAny_call_function hr.depth (KX _ _ lk) rfl S.co S.gen rfl (PySem.W.codeRec_of KX hcd) (bd _ _ _ _ ?_)
  refine wpAny_newFunctionEnv_cells S.kind hkind fun env he s1 x1 => ?_
  subst he
  refine ⟨lim.keeps x1.toInCall.keep, codeAny_func ?_⟩
  have ht := (hbody cdv A outer s H (hr.deeper _)).nox
  have I : Inv (cxOf CX0 P w K mg base N qual (defScope st) f cdv A outer s H E0) [] (start N [.ref x]) H s1 := inv_start S hr.hd e0 rfl (.cons rfl .nil) x1
  have hq : tRet (tCB (rIterT K s.heap.objs.size) (tCons (tFld K (tVar 0) fl) tNil)) { nx := fun _ H' => False, rt := fun v H' => ∃ it, v = .ref it ∧ s.heap.objs.size ≤ it ∧ H it = none ∧ H' = upd H it (TupO a it 0) } (start N [.ref x]) H := by
    subst hN
    exact ⟨.ref x, rfl, x, C, dx, fs, .ref a, rfl, hx, cl, na, hf, a, zs, rfl, hz, fun it hn hle => ⟨it, rfl, hle, hn, rfl⟩⟩
  refine wpAny_mono (ht.run [] s1 (start N [.ref x]) H _ I hq) (fun fl' s' hs => ?_) fun e s' hs => hs
  cases fl' with
  | ret u =>
    obtain ⟨v, σ', H', J, rv, q⟩ := hs
    exact ⟨v, H', J.os, J.bare, J.base, J.hok, rv, q⟩
  | next =>
    obtain ⟨σ', H', J, q⟩ := hs
    exact False.elim q
  | brk =>
    obtain ⟨_, _, _, q⟩ := hs
    exact False.elim q
  | cont =>
    obtain ⟨_, _, _, q⟩ := hs
    exact False.elim q
end
def iOwn (K : PySem.W.Frag) (C : Addr) (fl : Str) (te : TE) : TI := fun σ H R => te σ H fun v H1 => ∃ x dx fs a zs, v = .ref x ∧ H1 x = some (.ins C dx fs) ∧ fs.lookup fl = some (.ref a) ∧ SqT K H1 a zs ∧ R (Itt K a) H1
theorem pi_own {X : Cx} {K : PySem.W.Frag} {tg l : Expr} {tl : TE} {k : Nat} {f C : Addr} {fl : Str} (F : IterFn X.prog X.w X.K X.mg X.base k f C fl) (hr : Room k X.A) (hl : PE X l tl) (hK : X.K = K := by rfl) : PI X tg l (iOwn K C fl tl) := by
  subst hK
  refine ⟨fun pins s σ H R I h => ?_⟩
  refine thn (hl.run pins s σ H _ I h) fun v s1 ⟨y, H1, I1, r1, q1⟩ => ?_
  obtain ⟨x, dx, fs, a, zs, e, hx, hf, hz, q⟩ := q1
  subst e
  cases r1
  obtain ⟨mA, J, _⟩ := ins_get I1.hok hx
  obtain ⟨od, J, _⟩ := J.look
  obtain ⟨m, hF⟩ := I1.fr
  refine PySem.W.owit_iter hF I1.ok.mod.kin J F.it F.fn ?_
  refine wpAny_call (codeAny_mono (F.run X.A X.stack s1 H1 x dx fs a zs hr I1.env0 hx hf hz) fun r s' hq => ?_)
  cases r with
  | error e => exact pass0 pins σ H1 s1 e s' I1 hq
  | ok fl' =>
    cases fl' with
    | ret u =>
      obtain ⟨v, H', I2, rv, it, rfl, hle, hn, rfl⟩ := I1.after hq
      cases rv
      have hg : s'.heap.get? it = some (itTup a 0) := (I2.hok it _ upd_same).1
      have I3 : Inv X pins σ H1 s' := by
        have := ItX.inv_drop I2 (show upd H1 it (TupO a it 0) it = some (.ext _) from upd_same)
        rwa [ItX.dropH_upd hn] at this
      have ti : s'.heap.IsTupleIter it a 0 := ⟨_, hg, rfl, rfl⟩
      refine wpAny_specialOf ti.typeIs PySem.F.slot_tuple_iterator_next.lookup ?_
      refine ⟨it, [it], _, _, H1, rfl, I3, turn_tuple a _, ti, fun b hb => ?_, q⟩
      have e : b = it := by simpa using hb
      subst e
      exact I1.fpOk hle hn
    | next => exact False.elim hq
    | brk => exact False.elim hq
    | cont => exact False.elim hq
end Mi

set_option maxHeartbeats 2000000
namespace Mi
open PySem PySem.Spec PyProof.Rows L2 Evl
open Sem (wp)
open AutoSeq1 (wpAny_loadPart')
/-! ### enumerate(t), t a tuple -/
theorem meets_enumT (l : Addr) (items : Array Value) (n : Nat) (dct : Option Addr) (sl : Array (Option Value)) :
    Meets (Builtin.«enumerate.__new__» ⟨[.type "enumerate", .ref l], []⟩) (fun _ R s => s.heap.get? l = some { cls := .type "tuple", dict := dct, data := .seq items n, slots := sl } ∧
      R (.ok (.ret (.ref (s.heap.push (itTup l 0)).objs.size)))
        { s with heap := (s.heap.push (itTup l 0)).push { cls := .type "enumerate", data := .fields #[.none, .bool false, .ref s.heap.objs.size, rawInt 0, .none, .none] } }) :=
  .of_wp fun prog w A R s h => by
    obtain ⟨hp, g, d, tk, os⟩ := s; obtain ⟨hl, h⟩ := h
    have hsub := sub_enumerate
    have hL : Heap.IsTuple (Shared.heap ⟨hp, g, d, tk, os⟩) l items := ⟨_, hl, rfl, n, rfl⟩
    wp_walk using wpAny_loadPart' hl
    refine wpAny_stack_any fun st => wpAny_pure ?_
    split
    · rename_i c _ _ _ _ _
      cases (c == Value.type "enumerate")
      · wp_walk using wpAny_loadPart' hl, wpAny_pyIter_tuple hL
        exact ⟨_, rfl, h⟩
      · wp_walk using wpAny_loadPart' hl, wpAny_pyIter_tuple hL
        exact ⟨_, rfl, h⟩
    · wp_walk using wpAny_loadPart' hl, wpAny_pyIter_tuple hL
      exact ⟨_, rfl, h⟩
theorem call_enumT {prog : Program} {w : World} {A : Around} {E : Value → Shared → Prop} {s : Shared} {l : Addr} {items : Array Value} {Q : Value → Shared → Prop} (hL : s.heap.IsTuple l items)
    (h : ∀ h', IsEnum h' (s.heap.objs.size + 1) s.heap.objs.size 0 .none → h'.IsTupleIter s.heap.objs.size l 0 → h'.objs.size = s.heap.objs.size + 2 →
      (∀ b o, s.heap.get? b = some o → h'.get? b = some o) → Q (.ref (s.heap.objs.size + 1)) { s with heap := h' }) :
    wpAny (model prog w) A (call (.type "enumerate") [.ref l]) Q E s := by
  obtain ⟨⟨c, dct, dt, sl⟩, hl, hc, n, hd⟩ := hL
  replace hc : c = .type "tuple" := hc
  replace hd : dt = .seq items n := hd
  subst hc hd
  refine callType_new PySem.F.called_enumerate (by decide) (PySem.F.typeCall_enumerate_1 _) (PySem.F.newCall_enumerate_1 _) (fun obj => PySem.F.args_object_init_2 obj _) PySem.F.entry_enumerate_new
    (meets_enumT l items n dct sl) ⟨hl, ?_⟩
  have hz : (s.heap.push (itTup l 0)).objs.size = s.heap.objs.size + 1 := Heap.size_push ..
  show _ ∧ _
  rw [hz]
  have he : IsEnum ((s.heap.push (itTup l 0)).push
      { cls := .type "enumerate", data := .fields #[.none, .bool false, .ref s.heap.objs.size, rawInt 0, .none, .none] }) (s.heap.objs.size + 1) s.heap.objs.size 0 .none := by
    have := Heap.get?_push_size (s.heap.push (itTup l 0))
      (o := { cls := .type "enumerate", data := .fields #[.none, .bool false, .ref s.heap.objs.size, rawInt 0, .none, .none] }) rfl
    rw [hz] at this; exact this
  refine ⟨⟨_, he, rfl⟩, h _ he ⟨_, Heap.get?_push_of_some _ (Heap.get?_push_size _ rfl), rfl, rfl⟩ (by rw [Heap.size_push, hz]) fun b o x => Heap.get?_push_of_some _ (Heap.get?_push_of_some _ x)⟩
def IteT (K : PySem.W.Frag) (a : Addr) : It :=
  ⟨fun i H => ∃ (xs : List V) (x : V), SqT K H a xs ∧ xs[i]? = some x, fun i H v H' => ∃ T x, v = .ref T ∧ H T = none ∧ H' = upd H T (.tup [.int (i : Nat), x]) ∧ ∀ xs, SqT K H a xs → xs[i]? = some x, fun i H => ∃ xs : List V, SqT K H a xs ∧ xs.length ≤ i⟩
theorem turn_enumT {P : Program} {w : World} {K : PySem.W.Frag} {elts : List Expr} {kk : Nat} {tpos : Pos} (a e it : Addr) :
    Turn P w K (.Tuple elts kk tpos) (IteT K a) [e, it] e (fun i h => (∃ old, IsEnum h e it ((i : Nat) : Int) old) ∧ h.IsTupleIter it a i ∧ e ≠ it ∧ a ≠ it ∧ e ≠ a) where
  mem := by simp
  obj := fun i h st b hb => by
    obtain ⟨⟨old, he⟩, ⟨o, ho, hc, hd⟩, _⟩ := st
    have e' : b = e ∨ b = it := by simpa using hb
    rcases e' with z | z
    · rw [z]; exact ⟨_, he, fun v q => nomatch q⟩
    · rw [z]; exact ⟨o, ho, fun v q => by rw [hd] at q; cases q⟩
  keep := fun i h h' st k => let ⟨⟨old, he⟩, hi, hne⟩ := st; ⟨⟨old, k e (by simp) _ he⟩, hi.at fun o q => k it (by simp) o q, hne⟩
  item := by
    intro X hP hw hK hc i pins s σ H E I hf st hg
    subst hP hw hK
    obtain ⟨⟨old, he⟩, hit, hne, hai, hea⟩ := st
    obtain ⟨xs, x, hq, hx⟩ := hg
    obtain ⟨its, rv, p, hz⟩ := I.tuple hq
    obtain ⟨u, hu, ru⟩ := rv.get hx
    have hel : e < s.heap.objs.size := Heap.lt_size he
    have hil : it < s.heap.objs.size := by obtain ⟨_, q, _⟩ := hit; exact Heap.lt_size q
    have hlt : i < its.toArray.size := by
      have := (List.getElem?_eq_some_iff.mp hu).1
      simpa using this
    refine wpAny_pyNext_enum_itemD (Draws.tuple (A := X.A.in1) (I.ok.hd hc) it a hai its.toArray) he ⟨hit, show s.heap.IsTuple a its.toArray from p⟩ hlt hne (by simp [hne, hea]) fun v h' tk hP ho st' hT hsz hk => ?_
    have ev : v = u := by
      have h1 : its.toArray[i]? = some v := hP
      have h2 : its.toArray[i]? = some u := by simpa using hu
      rw [h1] at h2
      exact Option.some.inj h2
    subst ev
    obtain ⟨hit', _⟩ := st'
    refine ⟨_, rfl, wpAny_letOwnedTupleGo_enum (s := { s with heap := h', toks := tk + 1 }) ho fun h'' he' sb => ?_⟩
    have hT2 : h''.get? s.heap.objs.size = some { cls := .type "tuple", data := .seq #[.int i tk, v] } := (sb.2 _ (Nat.ne_of_gt hel)).trans hT
    have new : ObjOk X.prog X.w (upd H s.heap.objs.size (.tup [.int (i : Nat), x])) h'' s.heap.objs.size (.tup [.int (i : Nat), x]) :=
      ⟨by show 2 ≤ sizeLine; decide, [.int i tk, v], .cons ⟨_, rfl⟩ (.cons ru .nil), ⟨_, hT2, rfl, _, rfl⟩⟩
    have I1 : Inv X pins σ (upd H s.heap.objs.size (.tup [.int (i : Nat), x])) { s with heap := h'', toks := tk + 1 } :=
      I.turnedNew (ch := [e, it]) (fun b ob hb q => (sb.2 b (fun z => hb (by simp [z]))).trans (hk b ob (fun z => hb (by simp [z])) (fun z => hb (by simp [z])) q)) hf (Nat.le_refl _) new
    refine ⟨.ref s.heap.objs.size, _, I1, rfl, ⟨_, x, rfl, I.hok.fresh (Nat.le_refl _), rfl, fun ys hy => by rw [I.tuple_inj hy hq]; exact hx⟩, ⟨⟨v, ?_⟩, hit'.at fun o q => (sb.2 it (Ne.symm hne)).trans q, hne, hai, hea⟩, fun b hb => ?_⟩
    · have e1 : ((i + 1 : Nat) : Int) = (i : Int) + 1 := by omega
      rw [e1]; exact he'
    · have hb' : b < s.heap.objs.size := by
        have e' : b = e ∨ b = it := by simpa using hb
        rcases e' with z | z
        · rw [z]; exact hel
        · rw [z]; exact hil
      rw [upd_ne (Nat.ne_of_lt hb')]
      exact (hf b hb).1
  done := by
    intro X hP hw hK hc i pins s σ H E I hf st hg
    subst hP hw hK
    obtain ⟨⟨old, he⟩, hit, hne, hai, hea⟩ := st
    obtain ⟨xs, hq, hx⟩ := hg
    obtain ⟨its, rv, p, hz⟩ := I.tuple hq
    obtain ⟨f0, f1, f2, f3, f4, f5⟩ := hf it (by simp)
    have hl := rv.length
    have hp : s.heap.IsTuple a its.toArray := p
    have D : Draws X.prog X.w X.A.in1 it [it, a] i (fun _ _ => False) (fun j h => j = i ∧ h.IsTupleIter it a i ∧ h.IsTuple a its.toArray) :=
      { live := fun _ _ st => let ⟨_, ⟨o, ho, _⟩, _⟩ := st; ⟨o, ho⟩
        frame := fun _ _ _ st hk => ⟨st.1, st.2.1.at fun o e => hk it (by simp) o e, st.2.2.at fun o e => hk a (by simp) o e⟩
        item := fun j s Q E hj st _ => absurd st.1 (Nat.ne_of_lt hj)
        done := fun s Q E st hE => wpAny_nextOf_tuple_end (I.ok.hd hc) st.2.1 st.2.2 (by simp; omega) hE }
    exact wpAny_pyNext_enum_endD D he ⟨rfl, hit, hp⟩ fun h' eb => ⟨rfl, I.turned (t' := s.toks) (fun b o hb q => eb b o hb q) f0 f1 f3 f4 f5⟩
  self := fun A i s Q E st h => let ⟨⟨_, he⟩, _⟩ := st; wpAny_pyIter_enum he h
def iEnumT (K : PySem.W.Frag) (ta : TA) : TI := fun σ H R => ta σ H fun vs H1 => ∃ a xs, vs = [.ref a] ∧ SqT K H1 a xs ∧ R (IteT K a) H1
theorem pi_enumT {X : Cx} {K : PySem.W.Frag} {e : Expr} {ta : TA} {p pos tpos : Pos} {elts : List Expr} {kk : Nat} (hg : Gl X "enumerate") (hm : X.mg "enumerate" = none) (ha : PA X [e] ta) (hK : X.K = K := by rfl) (hs : starEach [e] X.env = [(false, eval e X.env)] := by rfl) :
    PI X (.Tuple elts kk tpos) (.Call (.Name "enumerate" p) [e] [] pos) (iEnumT K ta) := by
  subst hK
  refine ⟨fun pins s σ H R I h => ?_⟩
  refine Call_ (ld_blt I hg hm boot_enumerate (PyProof.Rows.callWith_type1 (thn (ha.run pos pins s σ H _ I h) fun us s1 ⟨vs, H1, I1, r1, q1⟩ => ?_) hs rfl))
  obtain ⟨a, xs, ex, hq, q⟩ := q1
  subst ex
  cases r1 with
  | cons r rr =>
    cases rr
    cases r
    obtain ⟨its, rv, p', hz⟩ := I1.tuple hq
    have hal : a < s1.heap.objs.size := by
      obtain ⟨o, e, _⟩ := p'
      exact Heap.lt_size e
    refine call_enumT (show s1.heap.IsTuple a its.toArray from p') fun h' he hit hsz hk => wpAny_pyIter_enum he ?_
    have I2 : Inv X pins σ H1 { s1 with heap := h' } := I1.kept (t' := s1.toks) hk
    refine ⟨s1.heap.objs.size + 1, [s1.heap.objs.size + 1, s1.heap.objs.size], _, _, H1, rfl, I2, turn_enumT a (s1.heap.objs.size + 1) s1.heap.objs.size, ⟨⟨.none, he⟩, hit, Nat.succ_ne_self _, Nat.ne_of_lt hal, Nat.ne_of_gt (Nat.lt_succ_of_lt hal)⟩, fun b hb => ?_, q⟩
    have e' : b = s1.heap.objs.size + 1 ∨ b = s1.heap.objs.size := by simpa using hb
    have hle : s1.heap.objs.size ≤ b := by
      rcases e' with z | z
      · rw [z]; exact Nat.le_add_right _ _
      · rw [z]; exact Nat.le_refl _
    exact I1.fpOk hle (I1.hok.fresh hle)
section
variable {K : PySem.W.Frag} {σ : L2.St} {G A : Hp} {te tl : TE} {d d1 d2 d3 : Dd} {d0 : V} {ds : List Dd} {v : V}
theorem if_enumT (h : Ef K tl σ G (.U ds)) : Itf K (iEnumT K (tCons tl tNil)) σ G (ds.zipIdx.map fun p => Dd.U [.i (p.2 : Int), p.1]) := fun G1 A e1 e2 R r =>
  h G1 A e1 e2 _ fun v G2 A2 s ⟨p, vs, ep, hp, hE⟩ => by
    subst ep
    refine ⟨p, vs, rfl, ex_t s.v hp, r _ G2 A2 s fun i G' A' e3 e4 => ⟨fun d hd => ?_, fun hi => ?_⟩⟩
    · rw [List.getElem?_map, List.getElem?_zipIdx] at hd
      cases hx : ds[i]? with
      | none => rw [hx] at hd; cases hd
      | some x =>
        rw [hx] at hd
        have ed : Dd.U [.i (((0 + i : Nat)) : Int), x] = d := Option.some.inj hd
        rw [Nat.zero_add] at ed
        obtain ⟨y, hy, z⟩ := isE_at hE hx
        refine ⟨⟨vs, y, ex_t (e3.trans e4) hp, hy⟩, fun w A'' hyl => ?_⟩
        obtain ⟨T, x', rfl, hT, rfl, hall⟩ := hyl
        have ev := (hall vs (ex_t (e3.trans e4) hp)).symm.trans hy
        rw [Option.some.inj ev, ← ed]
        refine ⟨_, .new e4 hT, T, [.int (i : Int), y], rfl, st_of upd_same, .int (i : Int), [y], rfl, rfl, y, [], rfl, (z.mono e3).mono (Ex.new (ex_out e4 hT)), rfl⟩
    · rw [List.length_map, List.length_zipIdx] at hi
      exact ⟨vs, ex_t (e3.trans e4) hp, by rw [← isE_len hE]; omega⟩
/-- i, (a, b) -/
theorem g_nest {j0 j1 j2 : Nat} {Q : L2.St → Hp → Prop} (hA : Ex G A) (h : Is K G (.U [.v d0, .U [d1, d2]]) v) (k : ∀ v1 v2, Is K G d1 v1 → Is K G d2 v2 → Q (((σ.set j0 (some d0)).set j1 (some v1)).set j2 (some v2)) A) :
    gTup K 2 (gCons (gName j0) (gCons (gTup K 2 (gCons (gName j1) (gCons (gName j2) gNil))) gNil)) v σ A Q := by
  obtain ⟨T, vs, rfl, hT, x, r, rfl, hx, y, r2, rfl, hy, hr⟩ := h
  have er : r2 = [] := hr
  subst er
  obtain rfl : x = d0 := hx
  exact ⟨T, [x, y], rfl, ex_t hA hT, rfl, x, [y], rfl, y, [], rfl, g_two hA hy fun v1 v2 h1 h2 => ⟨rfl, k v1 v2 h1 h2⟩⟩
/-- a walk over an object whose __iter__ answers iter(self.f) -/
theorem if_own {C : Addr} {fl : Str} (h : ∀ G1 A, Ex G G1 → Ex G1 A → ∀ Q : VK, (∀ x dx fs a, A x = some (.ins C dx fs) → fs.lookup fl = some (.ref a) → Is K G1 (.U ds) (.ref a) → Q (.ref x) A) → te σ A Q) : Itf K (iOwn K C fl te) σ G ds := fun G1 A e1 e2 R r =>
  h G1 A e1 e2 _ fun x dx fs a hx hf ⟨p, vs, ep, hp, hE⟩ => by
    cases ep
    refine ⟨x, dx, fs, a, vs, rfl, hx, hf, ex_t e2 hp, r _ G1 A (.refl e2) fun i G' A' e3 e4 => ⟨fun d hd => ?_, fun hi => ⟨vs, ex_t (e3.trans e4) hp, by rw [← isE_len hE]; omega⟩⟩⟩
    obtain ⟨y, hy, z⟩ := isE_at hE hd
    refine ⟨⟨vs, y, ex_t (e3.trans e4) hp, hy⟩, fun v A'' hyl => ?_⟩
    obtain ⟨rfl, hall⟩ := hyl
    have ev := (hall vs (ex_t (e3.trans e4) hp)).symm.trans hy
    rw [Option.some.inj ev]
    exact ⟨G', .refl e4, z.mono e3⟩
end
theorem ps_never {X : Cx} {st : Stmt} : PS X st (fun _ _ _ => False) := ⟨fun _ _ _ _ _ _ h => False.elim h⟩
end Mi

set_option maxHeartbeats 2000000
namespace Mi
open PySem PySem.Spec PyProof.Rows L2 Evl
section
variable {K : PySem.W.Frag} {σ : L2.St} {G A : Hp} {te tk tv : TE} {t : TT} {wi : TI} {g : TG} {d : Dd} {D : Ends} {tz : TS}
theorem s_drop (h : Ef K te σ G d) (hA : Ex G A) (k : ∀ v G' A', Step G A G' A' → Is K G' d v → tz D σ A') : tSeq (tDrop te) tz D σ A := h G A (Ex.refl G) hA _ fun v G' A' s z => k v G' A' s z
/-- a dict comprehension: what it holds is not told -/
theorem ef_dc {α : Type} {its : List α} {inj : α → Dd} {vs : List Nat} (h : Itf K wi σ G (its.map inj)) (hz : its.length ≤ 50000)
    (hs : ∀ (i : Nat) x v G' A', Ex G G' → Ex G' A' → its[i]? = some x → Is K G' (inj x) v → ∃ σ2, (∀ Q : L2.St → Hp → Prop, Q σ2 A' → g v (wipe σ vs) A' Q) ∧ wipe σ2 vs = wipe σ vs ∧ ∃ (k : Key) (z : V), Er K tk σ2 A' (.v (kV k)) ∧ Er K tv σ2 A' (.v z)) :
    Ef K (tDc wi g tYes tk tv vs) σ G .D := fun G0 A0 e0 ea0 Q q =>
  h G0 A0 e0 ea0 _ fun J G1 A1 s1 hw => fun Dl hD => by
    have gD := ex_out s1.v hD
    refine ⟨fun i m A' => m = its.length - i ∧ i ≤ its.length ∧ ∃ G', Step G1 A1 G' A' ∧ G' Dl = none ∧ ∃ kvs, A' Dl = some (.dK kvs) ∧ kvs.length ≤ i, ⟨_, rfl, Nat.zero_le _, G1, .on s1.v (Ex.new hD), gD, [], upd_same, Nat.le_refl _⟩, ?_⟩
    rintro i m A' ⟨rfl, hi, G', st, hg, kvs, hu, hl⟩
    by_cases hlt : i < its.length
    · have hx : its[i]? = some its[i] := List.getElem?_eq_getElem hlt
      have hd' : (its.map inj)[i]? = some (inj its[i]) := by rw [List.getElem?_map, hx]; rfl
      obtain ⟨go, yl⟩ := (hw i G' A' st.g st.v).1 _ hd'
      refine .inr ⟨go, fun A3 => ∃ G3, Step G1 A1 G3 A3 ∧ G3 Dl = none ∧ ∃ kvs, A3 Dl = some (.dK kvs) ∧ kvs.length ≤ i + 1, fun A3 p3 => ⟨its.length - (i + 1), by omega, rfl, hlt, p3⟩, fun v A'' y => ?_⟩
      obtain ⟨G2, s2, z⟩ := yl v A'' y
      have uN : A' Dl ≠ none := by rw [hu]; simp
      have g2 := s2.f Dl uN hg
      have u2 := s2.a Dl _ hu
      obtain ⟨σ2, hgt, hwp, k, zv, htk, htv⟩ := hs i _ v G2 A'' ((e0.trans s1.g).trans (st.g.trans s2.g)) s2.v hx z
      refine hgt _ ⟨hwp, ?_⟩
      unfold tYes
      dsimp only
      rw [if_pos rfl]
      refine htk A'' (Ex.refl _) _ fun w A3 e3 zw => ?_
      refine htv A3 e3 _ fun w2 A4 e4 zw2 => ?_
      have s4 := (st.trans s2).trans (Step.on s2.v (e3.trans e4))
      refine ⟨kvs, k, zw, e4 Dl _ (e3 Dl _ u2), sz_lt (by omega), G2, s4.grow hD g2, g2, _, upd_same, ?_⟩
      have := length_putK kvs k w2
      omega
    · have e : i = its.length := by omega
      subst e
      refine .inl ⟨(hw _ G' A' st.g st.v).2 (by rw [List.length_map]), q _ (upd G' Dl (.dK kvs)) A' (s1.trans (st.seal hD hg hu)) ⟨Dl, kvs, rfl, upd_same⟩⟩
end
/-! ### a stock -/
abbrev prD (sts : List (List Nat × List Nat)) : List Dd := sts.map fun p => Dd.U [.s (S p.1), .s (S p.2)]
def stFlds (n : Int) (ps dd : Addr) : List (Str × V) := putF "_stamp_of" (.ref dd) (putF "stamps" (.ref ps) (putF "size" (.int n) []))
theorem ne_ss : ¬ (("size" : Str) = "stamps") := by decide +kernel
theorem ne_so : ¬ (("size" : Str) = "_stamp_of") := by decide +kernel
theorem ne_to : ¬ (("stamps" : Str) = "_stamp_of") := by decide +kernel
theorem stFlds_size (n : Int) (ps dd : Addr) : (stFlds n ps dd).lookup ("size" : Str) = some (.int n) := by
  unfold stFlds
  rw [lookup_putF, if_neg ne_so, lookup_putF, if_neg ne_ss, lookup_putF, if_pos rfl]
theorem stFlds_stamps (n : Int) (ps dd : Addr) : (stFlds n ps dd).lookup ("stamps" : Str) = some (.ref ps) := by
  unfold stFlds
  rw [lookup_putF, if_neg ne_to, lookup_putF, if_pos rfl]
def stockD (K : PySem.W.Frag) (C : Addr) (n : Int) (sts : List (List Nat × List Nat)) : Dd := .P ⟨fun H y => ∃ x dx ps dd kvs, y = .ref x ∧ H x = some (.ins C dx (stFlds n ps dd)) ∧ Is K H (.U (prD sts)) (.ref ps) ∧ H dd = some (.dK kvs), by
  rintro H H' y e ⟨x, dx, ps, dd, kvs, rfl, h1, h2, h3⟩
  exact ⟨x, dx, ps, dd, kvs, rfl, e x _ h1, h2.mono e, e dd _ h3⟩⟩
section
variable {K : PySem.W.Frag} {σ : L2.St} {G A : Hp} {te : TE} {C : Addr} {n : Int} {sts : List (List Nat × List Nat)} {x : V} {i : Nat}
/-- stock.stamps -/
theorem ef_stamps (cl : Cls K C) (na : NoAttr K C "stamps") (h : Ef K te σ G (stockD K C n sts)) : Ef K (tFld K te "stamps") σ G (.U (prD sts)) := fun G1 A e1 e2 Q q =>
  h G1 A e1 e2 _ fun v G2 A2 s ⟨x, dx, ps, dd, kvs, ev, h1, h2, h3⟩ => by
    subst ev
    exact ⟨x, C, dx, _, .ref ps, rfl, s.v x _ h1, cl, na, stFlds_stamps n ps dd, q _ G2 A2 s h2⟩
/-- for .. in stock, the stock in slot i -/
theorem if_stock (hx : σ[i]? = some (some x)) (h : Is K G (stockD K C n sts) x) : Itf K (iOwn K C "stamps" (tVar i)) σ G (prD sts) := if_own fun G1 A e1 e2 Q q => by
  obtain ⟨x0, dx, ps, dd, kvs, rfl, h1, h2, h3⟩ := h
  exact ⟨.ref x0, hx, q x0 dx _ ps (e2 x0 _ (e1 x0 _ h1)) (stFlds_stamps n ps dd) (h2.mono e1)⟩
end
end Mi

set_option maxHeartbeats 2000000
namespace Mi
open PySem PySem.Spec PyProof.Rows L2 Evl
/-! ### lists and tuples of texts compared -/
section
variable {K : PySem.W.Frag} {H : Hp}
theorem dpAll_strs : ∀ ys : List (List Nat), DpAll K H (vsl ys) (ys.map fun l => PyData.str (S l))
  | [] => .nil
  | n :: r => .cons (.str (S n)) (dpAll_strs r)
theorem eqv_strs : ∀ xs ys : List (List Nat), PyData.eqvAll (xs.map fun l => PyData.str (S l)) (ys.map fun l => PyData.str (S l)) = decide (xs = ys)
  | [], [] => by simp [PyData.eqvAll]
  | [], _ :: _ => by simp [PyData.eqvAll]
  | _ :: _, [] => by simp [PyData.eqvAll]
  | a :: r, b :: t => by
    simp only [List.map_cons, PyData.eqvAll, PyData.eqv, eqv_strs r t]
    by_cases h : a = b
    · by_cases h' : r = t <;> simp [h, h']
    · have h2 : ¬ (S a = S b) := fun e => h (S_inj e)
      simp [h, h2]
def okT (l : List Nat) : Prop := PyData.strOk (S l) = true
theorem canLay_strs : ∀ ys : List (List Nat), (∀ l ∈ ys, okT l) → PyData.canLayAll0 (ys.map fun l => PyData.str (S l)) = true ∧ PyData.depthAll (ys.map fun l => PyData.str (S l)) = 0
  | [], _ => ⟨by simp [PyData.canLayAll0], by simp [PyData.depthAll]⟩
  | a :: r, h => by
    obtain ⟨h1, h2⟩ := canLay_strs r fun l hl => h l (List.mem_cons_of_mem _ hl)
    have h0 : PyData.strOk (S a) = true := h a (List.mem_cons_self ..)
    refine ⟨?_, ?_⟩
    · simp only [List.map_cons, PyData.canLayAll0, PyData.canLay0, h0, h1, Bool.and_self]
    · simp only [List.map_cons, PyData.depthAll, PyData.depth, h2]
      rfl
theorem shaped_strs {ys : List (List Nat)} (h : ∀ l ∈ ys, okT l) : SeqAt.shaped (.list (ys.map fun l => PyData.str (S l))) = true ∧ SeqAt.shaped (.tuple (ys.map fun l => PyData.str (S l))) = true := by
  obtain ⟨h1, h2⟩ := canLay_strs ys h
  simp [SeqAt.shaped, PyData.canLay0, PyData.depth, h1, h2]
theorem ro_eqLs {xs ys : List (List Nat)} (hx : ∀ l ∈ xs, okT l) (hy : ∀ l ∈ ys, okT l) : Ro K (rEqD K) (.l (vsl xs)) (.l (vsl ys)) (.v (.bl (decide (xs = ys)))) := by
  rintro _ _ H1 ⟨p, rfl, hp⟩ ⟨p', rfl, hp'⟩ Q q
  refine ⟨_, _, .lst hp (dpAll_strs xs), .lst hp' (dpAll_strs ys), (shaped_strs hx).1, (shaped_strs hy).1, q _ H1 (Ex.refl H1) ?_⟩
  show V.bl (PyData.eqvAll _ _) = _
  rw [eqv_strs]
theorem ro_neLs {xs ys : List (List Nat)} (hx : ∀ l ∈ xs, okT l) (hy : ∀ l ∈ ys, okT l) : Ro K (rNeD K) (.l (vsl xs)) (.l (vsl ys)) (.v (.bl (!decide (xs = ys)))) := by
  rintro _ _ H1 ⟨p, rfl, hp⟩ ⟨p', rfl, hp'⟩ Q q
  refine ⟨_, _, .lst hp (dpAll_strs xs), .lst hp' (dpAll_strs ys), (shaped_strs hx).1, (shaped_strs hy).1, q _ H1 (Ex.refl H1) ?_⟩
  show V.bl (!PyData.eqvAll _ _) = _
  rw [eqv_strs]
theorem ro_eqUs {xs ys : List (List Nat)} (hx : ∀ l ∈ xs, okT l) (hy : ∀ l ∈ ys, okT l) : Ro K (rEqD K) (.u (vsl xs)) (.u (vsl ys)) (.v (.bl (decide (xs = ys)))) := by
  rintro _ _ H1 ⟨p, rfl, hp⟩ ⟨p', rfl, hp'⟩ Q q
  refine ⟨_, _, .tup hp (dpAll_strs xs), .tup hp' (dpAll_strs ys), (shaped_strs hx).2, (shaped_strs hy).2, q _ H1 (Ex.refl H1) ?_⟩
  show V.bl (PyData.eqvAll _ _) = _
  rw [eqv_strs]
/-! ### pairs of texts -/
def prP (p : List Nat × List Nat) : PyData := .tuple [.str (S p.1), .str (S p.2)]
theorem dpAll_prs : ∀ {sts : List (List Nat × List Nat)} {vs : List V}, IsE K H (prD sts) vs → DpAll K H vs (sts.map prP)
  | [], vs, h => by rw [show vs = [] from h]; exact .nil
  | p :: r, vs, h => by
    obtain ⟨x, rs, rfl, ⟨T, us, rfl, hT, y1, r1, rfl, hy1, y2, r2, rfl, hy2, hr2⟩, b⟩ := h
    have er : r2 = [] := hr2
    subst er
    obtain rfl : y1 = V.str (S p.1) := hy1
    obtain rfl : y2 = V.str (S p.2) := hy2
    exact .cons (.tup hT (.cons (.str _) (.cons (.str _) .nil))) (dpAll_prs b)
theorem eqv_prs_refl : ∀ sts : List (List Nat × List Nat), PyData.eqvAll (sts.map prP) (sts.map prP) = true
  | [] => by simp [PyData.eqvAll]
  | p :: r => by
    simp only [List.map_cons, PyData.eqvAll, PyData.eqv, prP, eqv_prs_refl r]
    simp [PyData.eqvAll, PyData.eqv]
theorem canLay_prs : ∀ sts : List (List Nat × List Nat), (∀ p ∈ sts, okT p.1 ∧ okT p.2) → PyData.canLayAll0 (sts.map prP) = true ∧ PyData.depthAll (sts.map prP) ≤ 1
  | [], _ => ⟨by simp [PyData.canLayAll0], by simp [PyData.depthAll]⟩
  | p :: r, h => by
    obtain ⟨h1, h2⟩ := canLay_prs r fun l hl => h l (List.mem_cons_of_mem _ hl)
    obtain ⟨a1, a2⟩ := h p (List.mem_cons_self ..)
    have b1 : PyData.strOk (S p.1) = true := a1
    have b2 : PyData.strOk (S p.2) = true := a2
    refine ⟨?_, ?_⟩
    · simp only [List.map_cons, PyData.canLayAll0, PyData.canLay0, prP, b1, b2, h1, Bool.and_self]
    · simp only [List.map_cons, PyData.depthAll, PyData.depth, prP]
      omega
theorem ro_eqPr {sts : List (List Nat × List Nat)} (h : ∀ p ∈ sts, okT p.1 ∧ okT p.2) : Ro K (rEqD K) (.U (prD sts)) (.U (prD sts)) (.b true) := by
  rintro _ _ H1 ⟨p, vs, rfl, hp, hE⟩ ⟨p', vs', rfl, hp', hE'⟩ Q q
  obtain ⟨h1, h2⟩ := canLay_prs sts h
  have sh : SeqAt.shaped (.tuple (sts.map prP)) = true := by
    simp [SeqAt.shaped, PyData.canLay0, PyData.depth, h1]
    omega
  refine ⟨_, _, .tup hp (dpAll_prs hE), .tup hp' (dpAll_prs hE'), sh, sh, q _ H1 (Ex.refl H1) ?_⟩
  show V.bl (PyData.eqvAll _ _) = _
  rw [eqv_prs_refl]
end
section
variable {K : PySem.W.Frag} {σ : L2.St} {G : Hp} {ta tb : TE} {tr : TA} {d1 d2 : Dd} {C : Addr} {n : Nat} {sts : List (List Nat × List Nat)}
theorem ef_call2 {T : Type} {pre : T → Prop} {args : T → List Dd} {ret : T → Dd} (a : T) (h1 : Ef K ta σ G d1) (h2 : Ef K tb σ G d2) (hd : [d2, d1] = args a) (hp : pre a) : Ef K (tCall2 (spF K pre args ret) ta tb) σ G (ret a) := fun G1 A e1 e2 Q q =>
  h1 G1 A e1 e2 _ fun v1 G2 A2 s z1 => h2 G2 A2 (e1.trans s.g) s.v _ fun v2 G3 A3 s3 z2 => ⟨v1, v2, rfl, a, hp, G3, s3.v, hd ▸ .cons z2 (.cons (z1.mono s3.g) .nil), fun v G4 A4 s4 z => q v G4 A4 ((s.trans s3).trans s4) z⟩
end
end Mi
namespace Mi
open PySem PySem.Spec PyProof.Rows L2 Evl
theorem okT_of {l : List Nat} (h : ∀ c ∈ l, c < 1114112) : okT l := by
  unfold okT PyData.strOk
  rw [← Array.all_toList]
  show l.all _ = true
  rw [List.all_eq_true]
  exact fun c hc => decide_eq_true (h c hc)
section
variable {K : PySem.W.Frag} {σ : L2.St} {H H' : Hp} {te ta tb : TE} {tr : TA} {d1 d2 : Dd} {ds : List Dd} {D : Ends} {tz : TS} {C : Addr} {n : Nat} {sts : List (List Nat × List Nat)}
theorem er_callF {T : Type} {pre : T → Prop} {args : T → List Dd} {ret : T → Dd} {E : XK} (a : T) (h : Era K tr σ H ds) (hd : ds = args a) (hp : pre a) : Er K (tCall (spF K pre args ret) [] E tr) σ H (ret a) := fun H1 e Q q =>
  h H1 e _ fun vs H2 e2 z => by
    rw [List.append_nil]
    exact ⟨a, hp, H2, Ex.refl _, hd ▸ z, fun v G' A' s z3 => q v A' (e2.trans s.a) (z3.mono s.v)⟩
theorem er_call2F {T : Type} {pre : T → Prop} {args : T → List Dd} {ret : T → Dd} (a : T) (h1 : Er K ta σ H d1) (h2 : Er K tb σ H d2) (hd : [d2, d1] = args a) (hp : pre a) : Er K (tCall2 (spF K pre args ret) ta tb) σ H (ret a) := fun H1 e Q q =>
  h1 H1 e _ fun v1 H2 e2 z1 => h2 H2 (e.trans e2) _ fun v2 H3 e3 z2 => ⟨v1, v2, rfl, a, hp, H3, Ex.refl _, hd ▸ .cons z2 (.cons (z1.mono e3) .nil), fun v G' A' s z => q v A' ((e2.trans e3).trans s.a) (z.mono s.v)⟩
/-- a new list that is written out and will grow -/
theorem a_newL {i : Nat} {vs : List V} (h : Era K tr σ H (vs.map Dd.v)) (hl : vs.length ≤ 100000) (k : ∀ p H1, H p = none → Ex H H1 → H1 p = some (.lst vs) → tz D (σ.set i (some (.ref p))) H1) : tSeq (tAsg (tLst tr) (gName i)) tz D σ H :=
  h H (Ex.refl H) _ fun ws H2 e2 z => by
    have ew := flat_all z
    subst ew
    exact ⟨sz_of hl, fun p hp => k p _ (fresh_back e2 hp) (e2.trans (Ex.new hp)) upd_same⟩
theorem uS {xs : List (List Nat)} {v : V} (h : Is K H (.U (xs.map fun l => Dd.s (S l))) v) : Is K H (.u (vsl xs)) v := by
  refine Is.U2u (xs := vsl xs) ?_
  rw [vsl, vss, List.map_map, List.map_map]
  exact h
theorem nS {xs : List (List Nat)} {v : V} (h : Is K H (.N (xs.map fun l => Dd.s (S l))) v) : Is K H (.n (vsl xs)) v := by
  refine Is.N2n (xs := vsl xs) ?_
  rw [vsl, vss, List.map_map, List.map_map]
  exact h
end
/-- some texts of one length -/
def layersD (K : PySem.W.Frag) (n : Nat) : Dd := .P ⟨fun H y => ∃ L : List (List Nat), (∀ l ∈ L, l.length = n) ∧ 1 ≤ L.length ∧ L.length ≤ 50 ∧ Is K H (.n (vsl L)) y, by
  rintro H H' y e ⟨L, h1, h2, h3, h4⟩
  exact ⟨L, h1, h2, h3, h4.mono e⟩⟩
end Mi

set_option maxHeartbeats 2000000
namespace Mi
open PySem PySem.Spec PyProof.Rows L2 Evl
/-! ### things of any kind: texts, nested lists and tuples, dicts, an object -/
section
variable {K : PySem.W.Frag} {H H' : Hp}
mutual
theorem dp_mono (e : Ex H H') : ∀ {x : V} {d : PyData}, Dp K H x d → Dp K H' x d
  | _, _, .non => .non
  | _, _, .bl b => .bl b
  | _, _, .int i => .int i
  | _, _, .str x => .str x
  | _, _, .lst h hs => .lst (ex_l e h) (dpAll_mono e hs)
  | _, _, .tup h hs => .tup (ex_t e h) (dpAll_mono e hs)
theorem dpAll_mono (e : Ex H H') : ∀ {xs : List V} {ds : List PyData}, DpAll K H xs ds → DpAll K H' xs ds
  | _, _, .nil => .nil
  | _, _, .cons a b => .cons (dp_mono e a) (dpAll_mono e b)
end
def datV : V → PyData
  | .bl b => .bool b
  | .int i => .int i
  | .str x => .str x
  | _ => .none
def goodV : V → Bool
  | .non => true
  | .bl _ => true
  | .int _ => true
  | .str _ => true
  | _ => false
mutual
def datD : Dd → PyData
  | .v x => datV x
  | .N ds => .list (datL ds)
  | .U ds => .tuple (datL ds)
  | _ => .none
def datL : List Dd → List PyData
  | [] => []
  | d :: r => datD d :: datL r
end
mutual
def goodD : Dd → Bool
  | .v x => goodV x
  | .N ds => goodL ds
  | .U ds => goodL ds
  | _ => false
def goodL : List Dd → Bool
  | [] => true
  | d :: r => goodD d && goodL r
end
theorem dp_v : ∀ {x : V}, goodV x = true → Dp K H x (datV x)
  | .non, _ => .non
  | .bl b, _ => .bl b
  | .int i, _ => .int i
  | .str z, _ => .str z
  | .byt _, h => by cases h
  | .flt _, h => by cases h
  | .ref _, h => by cases h
  | .ty _, h => by cases h
mutual
theorem dp_of : ∀ {d : Dd} {x : V}, goodD d = true → Is K H d x → Dp K H x (datD d)
  | .v y, x, g, h => by
    obtain rfl : x = y := h
    exact dp_v g
  | .N ds, x, g, h => by
    obtain ⟨p, vs, rfl, hp, hE⟩ := h
    exact .lst (sq_of hp) (dpAll_of g hE)
  | .U ds, x, g, h => by
    obtain ⟨p, vs, rfl, hp, hE⟩ := h
    exact .tup hp (dpAll_of g hE)
  | .D, _, g, _ => by cases g
  | .P _, _, g, _ => by cases g
  | .l _, _, g, _ => by cases g
  | .n _, _, g, _ => by cases g
  | .u _, _, g, _ => by cases g
  | .L _, _, g, _ => by cases g
theorem dpAll_of : ∀ {ds : List Dd} {xs : List V}, goodL ds = true → IsE K H ds xs → DpAll K H xs (datL ds)
  | [], xs, _, h => by
    rw [show xs = [] from h]
    exact .nil
  | d :: r, xs, g, h => by
    obtain ⟨x, rs, rfl, a, b⟩ := h
    have g2 : (goodD d && goodL r) = true := g
    rw [Bool.and_eq_true] at g2
    exact .cons (dp_of g2.1 a) (dpAll_of g2.2 b)
end
inductive Th where
  | t (l : List Nat)
  | c (d : Dd)
  | k (ks : List (Key × V))
  | o
def ThOk : Th → Prop
  | .t l => l.length ≤ 1000
  | .c d => goodD d = true ∧ (tyN d ≠ "?" ∧ tyN d ≠ "str") ∧ PyData.canLay0 (datD d) = true ∧ PyData.depth (datD d) ≤ 8
  | .k ks => ∀ p ∈ ks, valV ks p.1 = some p.2 ∧ flatB p.2 = true
  | .o => True
def thD (C : Addr) : Th → Dd
  | .t l => .s (S l)
  | .c d => d
  | .k ks => .P ⟨fun H x => ∃ a, x = .ref a ∧ H a = some (.dK ks), by rintro H H' x e ⟨a, rfl, h⟩; exact ⟨a, rfl, e a _ h⟩⟩
  | .o => .P ⟨fun H x => ∃ a dx fs, x = .ref a ∧ H a = some (.ins C dx fs), by rintro H H' x e ⟨a, dx, fs, rfl, h⟩; exact ⟨a, dx, fs, rfl, e a _ h⟩⟩
/-- what isinstance reads of the class C -/
structure ObTy (K : PySem.W.Frag) (C : Addr) : Prop where
  cl : Cls K C
  fc : PySem.W.findIn K (.ref C) "__class__" = some (some (.builtin "object.__class__"))
  sp : PySem.W.specialIn K (.builtin "object.__class__") "__get__" = some (some (.builtin "getset_descriptor.__get__"))
  tk : PySem.W.takesIn K (.builtin "object.__class__") = some true
  mr : PySem.W.mroIn K C (.type "object") = some true
  no : PySem.W.kitOne K (.ref C) (.type "str") = some false
def isT : Th → Bool
  | .t _ => true
  | _ => false
def txT : Th → List Nat
  | .t l => l
  | _ => []
theorem rc_isiTh {C : Addr} (O : ObTy K C) : ∀ {th : Th}, ThOk th → Rc K (rIsi K) [thD C th, .v (.ty "str")] (.b (isT th))
  | .t l, _ => rc_isi_str (b := true) (by decide +kernel)
  | .c d, h => rc_isiD h.2.1.1 (by
    have h2 := h.2.1.2
    show kitB (tyN d) "str" = some false
    rcases tyN_cases h.2.1.1 with e | e | e | e | e | e | e
    · rw [e]; decide +kernel
    · rw [e]; decide +kernel
    · rw [e]; decide +kernel
    · exact absurd e h2
    · rw [e]; decide +kernel
    · rw [e]; decide +kernel
    · rw [e]; decide +kernel)
  | .k ks, _ => rc_isi (.type "dict") (fun H1 v z => by obtain ⟨a, rfl, h⟩ := z; exact .base (.dK h)) (b := false) (kit_ty (by decide +kernel))
  | .o, _ => rc_isi (.ref C) (fun H1 v z => by obtain ⟨a, dx, fs, rfl, h⟩ := z; exact .base (.ins h O.cl O.fc O.sp O.tk O.mr)) O.no
theorem is_text {C : Addr} : ∀ {th : Th} {x : V}, isT th = true → Is K H (thD C th) x → x = .str (S (txT th))
  | .t l, _, _, h => h
  | .c _, _, h, _ => by cases h
  | .k _, _, h, _ => by cases h
  | .o, _, h, _ => by cases h

/-! ### == of lists of such things -/
def EqI (K : PySem.W.Frag) (H : Hp) (x y : V) : Prop := (x = y ∧ flatB x = true) ∨ (∃ d, Dp K H x d ∧ Dp K H y d ∧ PyData.canLay0 d = true ∧ PyData.depth d ≤ 8) ∨ EqV K H 3 x y
def rEqZ (K : PySem.W.Frag) : R2 := fun x y H Q => ∃ a b xs ys, x = .ref a ∧ y = .ref b ∧ SqL K H a xs ∧ SqL K H b ys ∧ Paired (EqI K H) xs ys ∧ Q (.bl true) H
theorem op_eqZ {X : Cx} (hu : X.A.units + 64 < cLine) : OpR X (compareOp .Eq) (rEqZ X.K) := by
  rintro pins s σ H x y v u Q I rx ry ⟨a, b, xs, ys, rfl, rfl, ha, hb, hp, q⟩
  have u1 : X.A.in1.units = X.A.units + 1 := rfl
  refine L2.eqR_run I (F := EqI X.K H) (by omega) ?_ (.inl ⟨a, b, xs, ys, rfl, rfl, ha, hb, hp⟩) rx ry X.xe (EP X pins σ Q) ⟨.bl true, H, I, rfl, q⟩
  rintro x y v u (⟨rfl, f⟩ | ⟨d, h1, h2, c, dp⟩ | h) r1 r2
  · exact (eqAt_same r1 r2 f).eqP
  · obtain ⟨as, q1⟩ := Dp.reads I d x v h1 r1
    obtain ⟨bs, q2⟩ := Dp.reads I d y u h2 r2
    have e := SeqAt.eqAt_reads d d X.A.in1 s v u as bs q1 q2 c c (by omega)
    rw [SeqAt.eqv_refl d c] at e
    exact e.eqP
  · exact L2.eqV_run I 3 X.A.in1 (by omega) x y v u h r1 r2
theorem op_eqZ_k {X : Cx} {K : PySem.W.Frag} (hu : X.A.units + 64 < cLine) (h : X.K = K := by rfl) : OpR X (compareOp .Eq) (rEqZ K) := h ▸ op_eqZ hu
theorem eqI_th {C : Addr} : ∀ {th : Th} {x y : V}, ThOk th → th ≠ .o → Is K H (thD C th) x → Is K H (thD C th) y → EqI K H x y
  | .t l, x, y, _, _, h1, h2 => by
    obtain rfl : x = V.str (S l) := h1
    obtain rfl : y = V.str (S l) := h2
    exact .inl ⟨rfl, rfl⟩
  | .c d, x, y, h, _, h1, h2 => .inr (.inl ⟨datD d, dp_of h.1 h1, dp_of h.1 h2, h.2.2.1, h.2.2.2⟩)
  | .k ks, x, y, h, _, ⟨a, ea, h1⟩, ⟨b, eb, h2⟩ => by
    subst ea
    subst eb
    refine .inr (.inr ?_)
    rw [L2.EqV.eq_2]
    refine .inr (.inr (.inr ⟨a, b, ks, ks, rfl, rfl, h1, h2, rfl, fun p hp => ⟨p.2, (h p hp).1, ?_⟩⟩))
    rw [L2.EqV.eq_2]
    exact .inl ⟨rfl, (h p hp).2⟩
  | .o, _, _, _, n, _, _ => absurd rfl n
theorem paired_th {C : Addr} : ∀ {ths : List Th} {xs ys : List V}, (∀ th ∈ ths, ThOk th ∧ th ≠ .o) → IsE K H (ths.map (thD C)) xs → IsE K H (ths.map (thD C)) ys → Paired (EqI K H) xs ys
  | [], xs, ys, _, h1, h2 => by
    rw [show xs = [] from h1, show ys = [] from h2]
    exact .nil
  | th :: r, xs, ys, h, h1, h2 => by
    obtain ⟨x, xr, rfl, a1, b1⟩ := h1
    obtain ⟨y, yr, rfl, a2, b2⟩ := h2
    have q := h th (List.mem_cons_self ..)
    exact .cons (eqI_th q.1 q.2 a1 a2) (paired_th (fun t ht => h t (List.mem_cons_of_mem _ ht)) b1 b2)
theorem ro_eqZ {C : Addr} {ths : List Th} (h : ∀ th ∈ ths, ThOk th ∧ th ≠ .o) : Ro K (rEqZ K) (.L (ths.map (thD C))) (.N (ths.map (thD C))) (.b true) := by
  rintro _ _ H1 ⟨p, vs, rfl, hp, hE⟩ ⟨p', vs', rfl, hp', hE'⟩ Q q
  exact ⟨p, p', vs, vs', rfl, rfl, hp, sq_of hp', paired_th h hE hE', q _ H1 (Ex.refl H1) rfl⟩
end
section
variable {K : PySem.W.Frag} {σ : L2.St} {H G A : Hp} {te ta tb tc ti to : TE} {tr : TA} {d d1 d2 : Dd} {ds : List Dd} {x y : V} {C : Addr}
/-! ### making them -/
theorem ef_d0 : Ef K tDNewK σ G (thD C (.k [])) := fun G1 A e1 e2 Q q p hp => q _ (upd G1 p (.dK [])) _ (Step.new e2 hp) ⟨p, rfl, upd_same⟩
theorem step_new2 {G A A2 : Hp} {p : Addr} {o o' : HO} (e : Ex G A) (hp : A p = none) (e2 : Ex (upd A p o) A2) : Step G A (upd G p o') (upd A2 p o') := by
  have hg := ex_out e hp
  have eA : Ex A A2 := (Ex.new hp).trans e2
  refine ⟨Ex.new hg, ex_both (e.trans eA) hg, eA.mut hp, fun b h h2 => ?_⟩
  have hb : b ≠ p := fun z => h (by rw [z]; exact hp)
  rw [upd_ne hb]
  exact h2
theorem ef_d1 {a : Str} (h1 : Er K ta σ G (.s a)) (h2 : Er K tb σ G (.v y)) : Ef K (tDisp [(ta, tb)]) σ G (thD C (.k [(.inr a, y)])) := fun G1 A e1 e2 Q q p hp =>
  h1 _ ((e1.trans e2).trans (Ex.new hp)) _ fun v2 H2 e3 z2 => h2 _ (((e1.trans e2).trans (Ex.new hp)).trans e3) _ fun v3 H3 e4 z3 => by
    obtain rfl : v2 = V.str a := z2
    obtain rfl : v3 = y := z3
    exact ⟨(e3.trans e4) p _ upd_same, [(.inr a, v3)], rfl, by simp, q _ _ _ (step_new2 e2 hp (e3.trans e4)) ⟨p, rfl, upd_same⟩⟩
theorem mergeK2 {a b : Str} {x y : V} (h : a ≠ b) : mergeK [] [(.inr a, x), (.inr b, y)] = [(.inr a, x), (.inr b, y)] := by
  have e : ¬ ((Sum.inr a : Key) = .inr b) := fun z => h (Sum.inr.inj z)
  simp [mergeK, putK, e]
theorem ef_d2 {a b : Str} (h : a ≠ b) (h1 : Er K ta σ G (.s a)) (h2 : Er K tb σ G (.v x)) (h3 : Er K tc σ G (.s b)) (h4 : Er K to σ G (.v y)) : Ef K (tDisp [(ta, tb), (tc, to)]) σ G (thD C (.k [(.inr a, x), (.inr b, y)])) := fun G1 A e1 e2 Q q p hp =>
  h1 _ ((e1.trans e2).trans (Ex.new hp)) _ fun v2 H2 e3 z2 => h2 _ (((e1.trans e2).trans (Ex.new hp)).trans e3) _ fun v3 H3 e4 z3 => h3 _ ((((e1.trans e2).trans (Ex.new hp)).trans e3).trans e4) _ fun v4 H4 e5 z4 => h4 _ (((((e1.trans e2).trans (Ex.new hp)).trans e3).trans e4).trans e5) _ fun v5 H5 e6 z5 => by
    obtain rfl : v2 = V.str a := z2
    obtain rfl : v3 = x := z3
    obtain rfl : v4 = V.str b := z4
    obtain rfl : v5 = y := z5
    have eE := ((e3.trans e4).trans e5).trans e6
    exact ⟨eE p _ upd_same, [(.inr a, v3), (.inr b, v5)], rfl, by simp, q _ _ _ (step_new2 e2 hp eE) ⟨p, rfl, by rw [mergeK2 h]; exact upd_same⟩⟩
/-- [.., .., ..][i] -/
theorem ef_at {i : Int} (ths : List Th) (h : Efa K tr σ G (ths.map (thD C))) (hi : Er K ti σ G (.i i)) (h0 : 0 ≤ i) (h1 : i < ths.length) (hz : ths.length ≤ 1000) : Ef K (tOp (rIxL K) (tLst tr) ti) σ G (thD C (ths.getD i.toNat .o)) := by
  have e : ((i.toNat : Nat) : Int) = i := Int.toNat_of_nonneg h0
  have hlt : i.toNat < ths.length := by omega
  refine ef_op (ef_N h (by rw [List.length_map]; omega)) (ef_flat hi) ?_
  rw [← e]
  refine rf_ixN ?_
  rw [List.getElem?_map, Int.toNat_natCast, List.getD_eq_getElem?_getD, List.getElem?_eq_getElem hlt]
  rfl
theorem mem_getD {α : Type} {l : List α} {i : Nat} {z : α} (h : i < l.length) : l.getD i z ∈ l := by
  rw [List.getD_eq_getElem?_getD, List.getElem?_eq_getElem h]
  exact List.getElem_mem h
end
end Mi

set_option maxHeartbeats 2000000
namespace Mi
open PySem PySem.Spec PyProof.Rows L2 Evl
theorem cr_any_k {X : Cx} {K : PySem.W.Frag} (h : X.K = K := by rfl) (hc : X.calm = true := by rfl) : CallR X (.builtin "any") (rAny K) := h ▸ cr_any hc
section
variable {K : PySem.W.Frag} {σ : L2.St} {G A H H' : Hp} {te ta tb tc : TE} {t u : TT} {tr : TA} {x y : V}
theorem rc_anyB {bs : List Bool} : Rc K (rAny K) [.l (bs.map V.bl)] (.b (bs.any id)) := by
  rintro _ H1 (_ | ⟨⟨p, rfl, hp⟩, _ | _⟩) Q q
  exact ⟨p, bs, rfl, hp, q _ H1 (Ex.refl H1) rfl⟩
theorem rc_anyBN {bs : List Bool} : Rc K (rAny K) [.n (bs.map V.bl)] (.b (bs.any id)) := fun vs H1 h Q q => by
  cases h with
  | cons a b => exact rc_anyB _ H1 (.cons a.n2l b) Q q
/-- a list or a tuple of cells -/
def csD (b : Bool) (cs : List Nat) : Dd := if b = true then .U (cs.map fun c : Nat => Dd.i (c : Int)) else .L (cs.map fun c : Nat => Dd.i (c : Int))
theorem if_cs {b : Bool} {cs : List Nat} {i : Nat} (hx : σ[i]? = some (some x)) (h : Is K G (csD b cs) x) : Itf K (iSeqV K i) σ G (cs.map fun c : Nat => Dd.i (c : Int)) := by
  cases b with
  | true => exact if_seqU hx h
  | false => exact if_seqL hx h
/-- [test of cell for cell in cells], the cells in slot i, the cell in slot j -/
theorem er_lcB {b : Bool} {cs : List Nat} {i j : Nat} (g : Nat → Bool) (hx : σ[i]? = some (some x)) (h : Is K H (csD b cs) x) (hz : cs.length ≤ 1000) (hw : ∀ v, wipe ((wipe σ [j]).set j (some v)) [j] = wipe σ [j])
    (he : ∀ c ∈ cs, ∀ H1, Ex H H1 → Er K te ((wipe σ [j]).set j (some (.int (c : Int)))) H1 (.b (g c))) : Er K (tLc (iSeqV K i) (gName j) tYes te [j]) σ H (.n ((cs.map g).map V.bl)) :=
  Er.as (Ef.er (Ef.to (ef_lc (K := K) (its := cs) (inj := fun c : Nat => Dd.i (c : Int)) (vs := [j]) (fun _ => true) (fun c => Dd.b (g c)) (if_cs hx h) (by omega) (fun k c v G' A' e1 e2 hi hv => by
    obtain rfl : v = V.int (c : Int) := hv
    exact ⟨(wipe σ [j]).set j (some (.int (c : Int))), fun Q q => q, hw _, fun H2 e Q q => q H2 (Ex.refl _), fun _ => ef_flat (he c (List.mem_of_getElem? hi) G' e1)⟩)) (by rw [filt_true]))) fun Hx v z => by
      refine Is.N2n (xs := (cs.map g).map V.bl) ?_
      rw [List.map_map, List.map_map]
      exact z
end
end Mi

set_option maxHeartbeats 2000000
namespace Mi
open PySem PySem.Spec PyProof.Rows L2 Evl
/-! ### x in obj, the object's class has its own __contains__ -/
def rInO (C : Addr) (sp : Sp) (neg : Bool) : R2 := fun x y H Q => ∃ a dx fs, y = .ref a ∧ H a = some (.ins C dx fs) ∧ sp [y, x] H (fun v H' => ∃ b, v = .bl b ∧ Q (.bl (if neg = true then !b else b)) H') E0
theorem in_own {X : Cx} {k : Nat} {f C : Addr} {fd : FuncData} {sp : Sp} {p1 p2 : Str} (hi : PySem.W.findIn X.K (.ref C) "__contains__" = some (some (.ref f))) (hfn : PySem.W.isFn X.K (.ref f) = true) (F : FnOk X.prog X.w X.K X.mg X.base CX0 k f fd [p1, p2] sp) (hb : Binds X.K fd [p1, p2] []) (hr : Room k X.A)
    {pins : List (Addr × Obj)} {s : Shared} {σ : L2.St} {H : Hp} {x : V} {a dx : Addr} {fs : List (Str × V)} {v : Value} {Qb : Bool → Hp → Prop} {R : Bool → Shared → Prop} (I : Inv X pins σ H s) (rx : RelV x v) (hx : H a = some (.ins C dx fs))
    (h : sp [.ref a, x] H (fun v H' => ∃ b, v = .bl b ∧ Qb b H') E0) (hR : ∀ b s' H', Inv X pins σ H' s' → Qb b H' → R b s') : wpAny (PySem.model X.prog X.w) X.A (PySem.contains (.ref a) v) R X.xe s := by
  obtain ⟨mA, J, _⟩ := ins_get I.hok hx
  obtain ⟨od, J, _⟩ := J.look
  obtain ⟨m, hF⟩ := I.fr
  refine PySem.W.contains_K hF I.ok.mod.kin J hi hfn ?_
  have bd := hb s [.ref a, v] (I.kIn) rfl
  refine wpAny_call (codeAny_mono (F.run X.A X.stack s H ⟨[.ref a, v], []⟩ [.ref a, v] [.ref a, x] _ E0 hr I.env0 bd (.cons rfl (.cons rx .nil)) h) fun r s' hq => ?_)
  cases r with
  | error e => exact pass0 pins σ H s e s' I hq
  | ok fl =>
    cases fl with
    | ret u =>
      obtain ⟨w, H', I2, rv, b, rfl, q⟩ := I.after hq
      have eu : u = .bool b := rv
      subst eu
      show wpAny _ _ (truthy (Value.bool b)) R _ s'
      rw [show truthy (Value.bool b) = pure b from rfl]
      exact wpAny_pure (hR b s' H' I2 q)
    | next => exact False.elim hq
    | brk => exact False.elim hq
    | cont => exact False.elim hq
theorem op_inO {X : Cx} {k : Nat} {f C : Addr} {fd : FuncData} {sp : Sp} {p1 p2 : Str} (hi : PySem.W.findIn X.K (.ref C) "__contains__" = some (some (.ref f))) (hfn : PySem.W.isFn X.K (.ref f) = true) (F : FnOk X.prog X.w X.K X.mg X.base CX0 k f fd [p1, p2] sp) (hb : Binds X.K fd [p1, p2] []) (hr : Room k X.A) : OpR X (compareOp .In) (rInO C sp false) := by
  rintro pins s σ H x y v u Q I rx ry ⟨a, dx, fs, rfl, hx, h⟩
  have eu : u = .ref a := ry
  subst eu
  show wpAny (PySem.model X.prog X.w) X.A (PySem.contains (.ref a) v >>= fun b => (pure (Value.bool b) : Sem Value)) (EP X pins σ Q) X.xe s
  refine wpAny_bind (in_own hi hfn F hb hr I rx hx (Qb := fun b H' => Q (.bl b) H') h fun b s' H' J q => ?_)
  exact wpAny_pure ⟨.bl b, H', J, rfl, q⟩
theorem op_notInO {X : Cx} {k : Nat} {f C : Addr} {fd : FuncData} {sp : Sp} {p1 p2 : Str} (hi : PySem.W.findIn X.K (.ref C) "__contains__" = some (some (.ref f))) (hfn : PySem.W.isFn X.K (.ref f) = true) (F : FnOk X.prog X.w X.K X.mg X.base CX0 k f fd [p1, p2] sp) (hb : Binds X.K fd [p1, p2] []) (hr : Room k X.A) : OpR X (compareOp .NotIn) (rInO C sp true) := by
  rintro pins s σ H x y v u Q I rx ry ⟨a, dx, fs, rfl, hx, h⟩
  have eu : u = .ref a := ry
  subst eu
  show wpAny (PySem.model X.prog X.w) X.A (PySem.contains (.ref a) v >>= fun b => (pure (Value.bool !b) : Sem Value)) (EP X pins σ Q) X.xe s
  refine wpAny_bind (in_own hi hfn F hb hr I rx hx (Qb := fun b H' => Q (.bl !b) H') h fun b s' H' J q => ?_)
  exact wpAny_pure ⟨.bl !b, H', J, rfl, q⟩
end Mi
namespace Mi
open PySem PySem.Spec PyProof.Rows L2 Evl
/-! ### text in dict, the dict one of ours -/
def rInK (neg : Bool) : R2 := fun x y H Q => ∃ p z kvs, x = .str z ∧ y = .ref p ∧ H p = some (.dK kvs) ∧ Q (.bl (if neg = true then !(valV kvs (Sum.inr z)).isSome else (valV kvs (Sum.inr z)).isSome)) H
theorem relO_some {a : Option V} {b : Option Value} (h : RelO a b) : b.isSome = a.isSome := by
  cases a with
  | none =>
    cases b with
    | none => rfl
    | some v => exact h.elim
  | some x =>
    cases b with
    | none => exact h.elim
    | some v => rfl
theorem op_inK {X : Cx} : OpR X (compareOp .In) (rInK false) := by
  rintro pins s σ H x y v u Q I rx ry ⟨p, z, kvs, rfl, rfl, hp, q⟩
  obtain ⟨t, rfl⟩ := rx
  have eu : u = .ref p := ry
  subst eu
  obtain ⟨_, ya, va, ra, da⟩ := I.hok p (.dK kvs) hp
  refine PySem.wpAny_in_of (mixKind_str _ _ z t) ya da.mapOf ⟨.bl (valV kvs (Sum.inr z)).isSome, H, I.tok _, ?_, q⟩
  rw [relO_some (ra.val (Sum.inr z))]
  rfl
theorem op_notInK {X : Cx} : OpR X (compareOp .NotIn) (rInK true) := by
  rintro pins s σ H x y v u Q I rx ry ⟨p, z, kvs, rfl, rfl, hp, q⟩
  obtain ⟨t, rfl⟩ := rx
  have eu : u = .ref p := ry
  subst eu
  obtain ⟨_, ya, va, ra, da⟩ := I.hok p (.dK kvs) hp
  refine PySem.wpAny_notIn_of (mixKind_str _ _ z t) ya da.mapOf ⟨.bl (!(valV kvs (Sum.inr z)).isSome), H, I.tok _, ?_, q⟩
  rw [relO_some (ra.val (Sum.inr z))]
  rfl
end Mi
namespace Mi
open PySem PySem.Spec PyProof.Rows L2 Evl
/-! ### dict[text], the dict one of ours and the text a key of it -/
def rIxK : R2 := fun x y H Q => ∃ p z kvs v, x = .ref p ∧ y = .str z ∧ H p = some (.dK kvs) ∧ valV kvs (Sum.inr z) = some v ∧ Q v H
theorem ix_dK {X : Cx} : IxR X rIxK := by
  rintro value slice pins s σ H x y v u Q I rx ry ⟨p, z, kvs, w, rfl, rfl, hp, hv, q⟩ hs
  obtain ⟨t, rfl⟩ := ry
  have eu : v = .ref p := rx
  subst eu
  obtain ⟨_, ya, va, ra, da⟩ := I.hok p (.dK kvs) hp
  have r := ra.val (Sum.inr z)
  rw [hv] at r
  cases hw : valueAt va (Sum.inr z) with
  | none => rw [hw] at r; exact r.elim
  | some w' =>
    rw [hw] at r
    exact subscriptTail_builtinR da.typeIs slot_dict_getitem.lookup (wpAny_getItem_of (mixKind_str _ _ z t) da.mapOf hw ⟨rfl, ⟨w, H, I.tok _, r, q⟩⟩) hs
section
variable {K : PySem.W.Frag} {H : Hp} {kvs : List (Key × V)} {z : Str} {v : V}
/-- a dict of ours with these items -/
def dicD (kvs : List (Key × V)) : Dd := .P ⟨fun H x => ∃ a, x = .ref a ∧ H a = some (.dK kvs), by rintro H H' x e ⟨a, rfl, h⟩; exact ⟨a, rfl, e a _ h⟩⟩
theorem ro_inK : Ro K (rInK false) (.s z) (dicD kvs) (.b (valV kvs (Sum.inr z)).isSome) := by
  rintro _ _ H1 rfl ⟨p, rfl, hp⟩ Q q
  exact ⟨p, z, kvs, rfl, rfl, hp, q _ H1 (Ex.refl H1) rfl⟩
theorem ro_notInK : Ro K (rInK true) (.s z) (dicD kvs) (.b (!(valV kvs (Sum.inr z)).isSome)) := by
  rintro _ _ H1 rfl ⟨p, rfl, hp⟩ Q q
  exact ⟨p, z, kvs, rfl, rfl, hp, q _ H1 (Ex.refl H1) rfl⟩
theorem ro_ixK (hv : valV kvs (Sum.inr z) = some v) : Ro K rIxK (dicD kvs) (.s z) (.v v) := by
  rintro _ _ H1 ⟨p, rfl, hp⟩ rfl Q q
  exact ⟨p, z, kvs, v, rfl, rfl, hp, hv, q _ H1 (Ex.refl H1) rfl⟩
end
end Mi
namespace Mi
open PySem PySem.Spec PyProof.Rows L2 Evl
/-! ### a dict comprehension with different keys: what it holds -/
theorem putK_new {kvs : List (Key × V)} {k : Key} {v : V} (h : ∀ p ∈ kvs, p.1 ≠ k) : putK kvs k v = kvs ++ [(k, v)] := by
  unfold putK
  rw [if_neg]
  intro e
  obtain ⟨p, hp, hk⟩ := List.any_eq_true.mp e
  exact h p hp (of_decide_eq_true hk)
section
variable {K : PySem.W.Frag} {σ : L2.St} {G A : Hp} {te tk tv : TE} {t : TT} {wi : TI} {g : TG} {d : Dd}
theorem ef_dcC {α : Type} {its : List α} {inj : α → Dd} {vs : List Nat} (kf : α → Key) (vf : α → V) (hn : (its.map kf).Nodup) (h : Itf K wi σ G (its.map inj)) (hz : its.length ≤ 50000)
    (hs : ∀ (i : Nat) x v G' A', Ex G G' → Ex G' A' → its[i]? = some x → Is K G' (inj x) v → ∃ σ2, (∀ Q : L2.St → Hp → Prop, Q σ2 A' → g v (wipe σ vs) A' Q) ∧ wipe σ2 vs = wipe σ vs ∧ Er K tk σ2 A' (.v (kV (kf x))) ∧ Er K tv σ2 A' (.v (vf x))) :
    Ef K (tDc wi g tYes tk tv vs) σ G (dicD (its.map fun x => (kf x, vf x))) := fun G0 A0 e0 ea0 Q q =>
  h G0 A0 e0 ea0 _ fun J G1 A1 s1 hw => fun Dl hD => by
    have gD := ex_out s1.v hD
    refine ⟨fun i m A' => m = its.length - i ∧ i ≤ its.length ∧ ∃ G', Step G1 A1 G' A' ∧ G' Dl = none ∧ A' Dl = some (.dK ((its.take i).map fun x => (kf x, vf x))), ⟨_, rfl, Nat.zero_le _, G1, .on s1.v (Ex.new hD), gD, upd_same⟩, ?_⟩
    rintro i m A' ⟨rfl, hi, G', st, hg, hu⟩
    by_cases hlt : i < its.length
    · have hx : its[i]? = some its[i] := List.getElem?_eq_getElem hlt
      have hd' : (its.map inj)[i]? = some (inj its[i]) := by rw [List.getElem?_map, hx]; rfl
      obtain ⟨go, yl⟩ := (hw i G' A' st.g st.v).1 _ hd'
      refine .inr ⟨go, fun A3 => ∃ G3, Step G1 A1 G3 A3 ∧ G3 Dl = none ∧ A3 Dl = some (.dK ((its.take (i + 1)).map fun x => (kf x, vf x))), fun A3 p3 => ⟨its.length - (i + 1), by omega, rfl, hlt, p3⟩, fun v A'' y => ?_⟩
      obtain ⟨G2, s2, z⟩ := yl v A'' y
      have uN : A' Dl ≠ none := by rw [hu]; simp
      have g2 := s2.f Dl uN hg
      have u2 := s2.a Dl _ hu
      obtain ⟨σ2, hgt, hwp, htk, htv⟩ := hs i _ v G2 A'' ((e0.trans s1.g).trans (st.g.trans s2.g)) s2.v hx z
      refine hgt _ ⟨hwp, ?_⟩
      unfold tYes
      dsimp only
      rw [if_pos rfl]
      refine htk A'' (Ex.refl _) _ fun w A3 e3 zw => ?_
      refine htv A3 e3 _ fun w2 A4 e4 zw2 => ?_
      have s4 := (st.trans s2).trans (Step.on s2.v (e3.trans e4))
      refine ⟨_, kf its[i], zw, e4 Dl _ (e3 Dl _ u2), sz_lt (by rw [List.length_map, List.length_take]; omega), G2, s4.grow hD g2, g2, ?_⟩
      obtain rfl : w2 = vf its[i] := zw2
      rw [upd_same, map_take_next hx, putK_new]
      intro p hp
      obtain ⟨x, hxm, rfl⟩ := List.mem_map.mp hp
      obtain ⟨j, hj, rfl⟩ := List.getElem_of_mem hxm
      rw [List.length_take] at hj
      rw [List.getElem_take]
      have hq := List.pairwise_iff_getElem.mp hn j i (by rw [List.length_map]; omega) (by rw [List.length_map]; exact hlt) (by omega)
      rw [List.getElem_map, List.getElem_map] at hq
      exact hq
    · have e : i = its.length := by omega
      subst e
      rw [List.take_length] at hu
      refine .inl ⟨(hw _ G' A' st.g st.v).2 (by rw [List.length_map]), q _ (upd G' Dl (.dK (its.map fun x => (kf x, vf x)))) A' (s1.trans (st.seal hD hg hu)) ⟨Dl, rfl, upd_same⟩⟩
end
/-! ### a stock whose dict is known -/
def stK (sts : List (List Nat × List Nat)) : List (Key × V) := sts.map fun p => (Sum.inr (S p.1), V.str (S p.2))
theorem stK_get {sts : List (List Nat × List Nat)} {n : List Nat} : valV (stK sts) (Sum.inr (S n)) = (sts.find? fun p => decide (p.1 = n)).map fun p => V.str (S p.2) := by
  unfold valV stK
  rw [List.find?_map, Option.map_map]
  have : ((fun kv : Key × V => decide (kv.1 = Sum.inr (S n))) ∘ fun p : List Nat × List Nat => ((Sum.inr (S p.1), V.str (S p.2)) : Key × V)) = fun p : List Nat × List Nat => decide (p.1 = n) := by
    funext p
    show decide ((Sum.inr (S p.1) : Key) = Sum.inr (S n)) = decide (p.1 = n)
    by_cases h : p.1 = n
    · rw [h, decide_eq_true rfl, decide_eq_true rfl]
    · have h2 : ¬ ((Sum.inr (S p.1) : Key) = Sum.inr (S n)) := fun e => h (S_inj (Sum.inr.inj e))
      rw [decide_eq_false h, decide_eq_false h2]
  rw [this]
  rfl
def stockC (K : PySem.W.Frag) (C : Addr) (n : Int) (sts : List (List Nat × List Nat)) : Dd := .P ⟨fun H y => ∃ x dx ps dd, y = .ref x ∧ H x = some (.ins C dx (stFlds n ps dd)) ∧ Is K H (.U (prD sts)) (.ref ps) ∧ H dd = some (.dK (stK sts)), by
  rintro H H' y e ⟨x, dx, ps, dd, rfl, h1, h2, h3⟩
  exact ⟨x, dx, ps, dd, rfl, e x _ h1, h2.mono e, e dd _ h3⟩⟩
theorem stockC_D {K : PySem.W.Frag} {C : Addr} {n : Int} {sts : List (List Nat × List Nat)} {H : Hp} {v : V} (h : Is K H (stockC K C n sts) v) : Is K H (stockD K C n sts) v := by
  obtain ⟨x, dx, ps, dd, rfl, h1, h2, h3⟩ := h
  exact ⟨x, dx, ps, dd, _, rfl, h1, h2, h3⟩
theorem stFlds_dict (n : Int) (ps dd : Addr) : (stFlds n ps dd).lookup ("_stamp_of" : Str) = some (.ref dd) := by
  unfold stFlds
  rw [lookup_putF, if_pos rfl]
/-- stock._stamp_of -/
theorem er_stampOf {K : PySem.W.Frag} {σ : L2.St} {H : Hp} {te : TE} {C : Addr} {n : Int} {sts : List (List Nat × List Nat)} (cl : Cls K C) (na : NoAttr K C "_stamp_of") (h : Er K te σ H (stockC K C n sts)) : Er K (tFld K te "_stamp_of") σ H (dicD (stK sts)) := fun H1 e Q q =>
  h H1 e _ fun v H2 e2 ⟨x, dx, ps, dd, ev, h1, h2, h3⟩ => by
    subst ev
    exact ⟨x, C, dx, _, .ref dd, rfl, h1, cl, na, stFlds_dict n ps dd, q _ H2 e2 ⟨dd, rfl, h3⟩⟩
end Mi

set_option maxHeartbeats 2000000
namespace Mi
open PySem PySem.Spec PyProof.Rows L2 Evl HT

/-! ### tuple[::-1] -/
theorem fm_congr {α β : Type} {f g : α → Option β} : ∀ {l : List α}, (∀ x ∈ l, f x = g x) → l.filterMap f = l.filterMap g
  | [], _ => rfl
  | a :: l, h => by
    rw [List.filterMap_cons, List.filterMap_cons, h a (List.mem_cons_self ..), fm_congr fun x hx => h x (List.mem_cons_of_mem _ hx)]
theorem rev_pick (xs : Array Value) : ((List.range xs.size).filterMap fun (m : Nat) => xs[((xs.size : Int) - 1 + (m : Int) * (-1)).toNat]?).toArray = xs.toList.reverse.toArray := by
  have h := PySem.W.krv_pick xs
  unfold slicePick at h
  rw [PySem.W.krv_bounds] at h
  have h : ((sliceRange ((xs.size : Int) - 1) (-1) (-1)).filterMap (xs[·]?)).toArray = xs.toList.reverse.toArray := h
  rw [PySem.W.krv_sliceRange, List.filterMap_map] at h
  rw [← h]
  congr 1
  apply fm_congr
  intro m hm
  have := List.mem_range.mp hm
  have e : ((xs.size : Int) - 1 + (m : Int) * (-1)).toNat = xs.size - 1 - m := by omega
  show xs[((xs.size : Int) - 1 + (m : Int) * (-1)).toNat]? = xs[xs.size - 1 - m]?
  rw [e]
theorem rev_adj (n : Nat) : Builtin.Slice.sliceAdjust none none (-1) (n : Int) = ((n : Int) - 1, -1) := rfl
theorem rev_places (n : Nat) : Builtin.Slice.slicePlaces ((n : Int) - 1) (-1) (-1) = n := by
  unfold Builtin.Slice.slicePlaces
  rw [if_neg (by decide)]
  by_cases h : (n : Int) - 1 > -1
  · rw [if_pos h, show (- -1 : Int) = 1 by decide, Int.ediv_one]
    omega
  · rw [if_neg h]
    omega
section
variable {prog : Program} {w : World} {A : Around} {E : Value → Shared → Prop} {s : Shared}
theorem sliceApplied_rev {sl : Addr} {vl vu vs : Value} {n : Nat} {Q : Int × Int × Nat → Shared → Prop} (hs : s.heap.IsSliceOf sl vl vu vs) (pl : IsPart vl none) (pu : IsPart vu none) (ps : IsPart vs (some (-1)))
    (h : Q ((n : Int) - 1, -1, n) s) : wpAny (model prog w) A (Builtin.Slice.sliceApplied (.ref sl) (pure (n : Int))) Q E s := by
  obtain ⟨os, hos, hcs, hds⟩ := id hs
  unfold Builtin.Slice.sliceApplied Builtin.Slice.sliceFields
  refine wpAny_bind (wpAny_bind (wpAny_field hos hds (x := vl) rfl (wpAny_bind (wpAny_field hos hds (x := vu) rfl (wpAny_bind (wpAny_field hos hds (x := vs) rfl (wpAny_pure ?_)))))))
  refine wpAny_bind (slicePart_ ps ?_)
  show wpAny _ _ (if ((-1 : Int) == 0) = true then _ else _) _ _ s
  rw [if_neg (by decide)]
  refine wpAny_bind (slicePart_ pl (wpAny_bind (slicePart_ pu (wpAny_bind (wpAny_pure ?_)))))
  show wpAny _ _ (match Builtin.Slice.sliceAdjust none none (-1) (n : Int) with | (lo, hi) => pure (lo, (-1 : Int), Builtin.Slice.slicePlaces lo hi (-1))) _ _ s
  rw [rev_adj n]
  show wpAny _ _ (pure ((n : Int) - 1, (-1 : Int), Builtin.Slice.slicePlaces ((n : Int) - 1) (-1) (-1))) _ _ s
  rw [rev_places]
  exact wpAny_pure h
theorem getItem_tuple_rev {t sl : Addr} {items : Array Value} {vl vu vs : Value} {Q : Value → Shared → Prop} (ht : IsTup s.heap t items) (hs : s.heap.IsSliceOf sl vl vu vs) (pl : IsPart vl none) (pu : IsPart vu none) (ps : IsPart vs (some (-1)))
    (h : Q (.ref s.heap.objs.size) { s with heap := s.heap.push { cls := .type "tuple", data := .seq items.toList.reverse.toArray } })
    (hsz : items.size ≤ sizeLine) : wpAny (model prog w) A (getItem (.ref t) (.ref sl)) Q E s := by
  have htake : sizeOk (.seq items.toList.reverse.toArray) := by
    show items.toList.reverse.toArray.size ≤ sizeLine
    rw [List.size_toArray, List.length_reverse, Array.length_toList]
    omega
  obtain ⟨os, hos, hcs, hds⟩ := id hs
  have hTs : s.TypeIs (.ref sl) "slice" := ⟨os, hos, hcs⟩
  unfold getItem
  try with_reducible refine wpAny_holding ?_
  first | refine wpAny_bind (wpAny_pure ?_) | skip
  refine wpAny_bind (wpAny_sequenceKey ht.typeIs (by decide) ?_)
  refine wpAny_bind (wpAny_callSpecial?_slot (name := Str.ofString "__getitem__") ht.typeIs PyProof.Rows.slot_tuple_getitem
    (wpAny_call_entry PyProof.Rows.slot_tuple_getitem ht.typeIs entry_tuple_getitem ?_ (args_tuple_getitem _ _)))
  show wpAny _ _ (Builtin.Tuple.tupleItemsOf (.ref t) >>= _) _ _ s
  refine wpAny_bind (tupleItemsOf_ ht ?_)
  refine wpAny_bind (wpAny_typeOf hTs ?_)
  rw [if_pos (by decide)]
  refine wpAny_bind (sliceApplied_rev hs pl pu ps ?_)
  show wpAny _ _ (if (((items.size : Int) - 1) == 0 && (-1 : Int) == 1 && items.size == items.size) = true then _ else _) _ _ s
  rw [show (((items.size : Int) - 1) == 0 && (-1 : Int) == 1 && items.size == items.size) = false by
    rw [show ((-1 : Int) == 1) = false by decide, Bool.and_false, Bool.false_and]]
  rw [if_neg Bool.false_ne_true, rev_pick]
  first
    | exact wpAny_bind (m := Builtin.Tuple.tupleExact _) (wpAny_newObj_type (wpAny_pure ⟨_, rfl, wpAny_pure h⟩) htake)
    | exact wpAny_bind (m := Builtin.Tuple.tupleExact _) (wpAny_newObj_type (wpAny_bind (wpAny_pure (wpAny_pure ⟨_, rfl, wpAny_pure h⟩))) htake)
    | exact wpAny_bind (wpAny_bind (m := Builtin.Tuple.tupleExact _) (wpAny_newObj_type (wpAny_pure (wpAny_pure ⟨_, rfl, wpAny_pure h⟩)) htake))
    | exact wpAny_bind (wpAny_bind (m := Builtin.Tuple.tupleExact _) (wpAny_newObj_type (wpAny_pure ⟨_, rfl, wpAny_pure h⟩) htake))
end
def tRevT (K : PySem.W.Frag) (te : TE) : TE := fun σ H Q => te σ H fun x H1 => ∃ a xs, x = .ref a ∧ SqT K H1 a xs ∧ ∀ p, H1 p = none → Q (.ref p) (upd H1 p (.tup xs.reverse))
theorem pe_revT {X : Cx} {e : Expr} {te : TE} {k : Nat} {p1 p2 p3 pos : Pos} (he : PE X e te) : PE X (.Subscript e (.Slice none none (some (.UnaryOp .USub (.Constant (.int 1) k p1) p2)) p3) pos) (tRevT X.K te) := by
  refine ⟨fun pins s σ H Q I h => ?_⟩
  refine Subscript_ (thn (he.run pins s σ H _ I h) fun v s1 ⟨x, H1, I1, r1, q1⟩ => ?_)
  obtain ⟨a, xs, ex, hx, q⟩ := q1
  subst ex
  cases r1
  have hst : PO X (some (.UnaryOp .USub (.Constant (.int 1) k p1) p2)) (tPart (tUn (rU fun i => .int (-i)) (tC (.int 1)))) := po_some (pe_un un_neg pe_int)
  refine wpAny_Slice (thn (po_none.run pins s1 σ H1 (fun o H2 => o = none ∧ H2 = H1) I1 ⟨rfl, rfl⟩) fun vl s2 ⟨l, H2, I2, pl, el, e2⟩ => ?_)
  subst el e2
  refine thn (po_none.run pins s2 σ H2 (fun o H3 => o = none ∧ H3 = H2) I2 ⟨rfl, rfl⟩) fun vu s3 ⟨u, H3, I3, pu, eu, e3⟩ => ?_
  subst eu e3
  refine thn (hst.run pins s3 σ H3 (fun o H4 => o = some (-1) ∧ H4 = H3) I3 ⟨1, rfl, -1, rfl, rfl, rfl⟩) fun vs s4 ⟨o, H4, I4, ps, eo, e4⟩ => ?_
  subst eo e4
  have I5 : Inv X pins σ H4 { s4 with heap := s4.heap.push { cls := .type "slice", data := .fields #[vl, vu, vs] } } := I4.kept (t' := s4.toks) fun b ob q => Heap.get?_push_of_some _ q
  obtain ⟨its, r, ht, hz⟩ := I5.tuple hx
  have hlen := r.length
  show wpAny (model X.prog X.w) X.A (subscriptTail e (.Slice none none (some (.UnaryOp .USub (.Constant (.int 1) k p1) p2)) p3) (.ref a) (.ref s4.heap.objs.size)) (EP X pins σ Q) X.xe { s4 with heap := s4.heap.push { cls := .type "slice", data := .fields #[vl, vu, vs] } }
  refine tail_any (ops := [.ref a, .ref s4.heap.objs.size]) ht.typeIs (PyProof.Rows.slot_tuple_getitem.lookup) ?_ (by with_unfolding_all rfl)
  refine getItem_tuple_rev ht (Heap.IsSliceOf.new _ vl vu vs) pl pu ps ?_ (by rw [List.size_toArray]; omega)
  refine ⟨.ref _, _, I5.laid (t' := s4.toks) (o := .tup xs.reverse) (fun b ob q => Heap.get?_push_of_some _ q) (Nat.le_refl _) ?_, rfl, q _ (I5.hok.fresh (Nat.le_refl _))⟩
  exact ⟨by rw [List.length_reverse]; exact hz, _, r.reverse, IsTup.new _ _⟩
/-! ### text[::-1] -/
theorem pick_all (x : Array Nat) : (List.range x.size).filterMap (x[·]?) = x.toList := by
  have h1 : (List.range x.size).filterMap (x[·]?) = (List.range x.size).filterMap (some ∘ fun i => x.getD i 0) := by
    apply fm_congr
    intro i hi
    have := List.mem_range.mp hi
    show x[i]? = some (x.getD i 0)
    rw [Array.getElem?_eq_getElem this, Array.getD_eq_getD_getElem?, Array.getElem?_eq_getElem this]
    rfl
  rw [h1, List.filterMap_eq_map]
  apply List.ext_getElem
  · simp
  · intro i h2 h3
    have h4 : i < x.size := by simpa using h3
    simp [h4]
theorem rev_text (x : Str) : ((Builtin.Str.strSliceIndices none none (-1) x.length).filterMap (x.cps[·]?)).toArray = x.cps.toList.reverse.toArray := by
  have h : ((sliceRange ((x.cps.size : Int) - 1) (-1) (-1)).filterMap (x.cps[·]?)).toArray = x.cps.toList.reverse.toArray := by
    rw [PySem.W.krv_sliceRange, PySem.W.krv_range, List.filterMap_reverse, pick_all]
  exact h
def tRevS (te : TE) : TE := fun σ H Q => te σ H fun x H1 => ∃ z, x = .str z ∧ z.length ≤ sizeLine ∧ Q (.str ⟨z.cps.toList.reverse.toArray⟩) H1
theorem pe_revS {X : Cx} {e : Expr} {te : TE} {k : Nat} {p1 p2 p3 pos : Pos} (he : PE X e te) : PE X (.Subscript e (.Slice none none (some (.UnaryOp .USub (.Constant (.int 1) k p1) p2)) p3) pos) (tRevS te) := by
  refine ⟨fun pins s σ H Q I h => ?_⟩
  refine Subscript_ (thn (he.run pins s σ H _ I h) fun v s1 ⟨x, H1, I1, r1, q1⟩ => ?_)
  obtain ⟨z, ex, hz, q⟩ := q1
  subst ex
  obtain ⟨t, rfl⟩ := r1
  have hst : PO X (some (.UnaryOp .USub (.Constant (.int 1) k p1) p2)) (tPart (tUn (rU fun i => .int (-i)) (tC (.int 1)))) := po_some (pe_un un_neg pe_int)
  refine wpAny_Slice (thn (po_none.run pins s1 σ H1 (fun o H2 => o = none ∧ H2 = H1) I1 ⟨rfl, rfl⟩) fun vl s2 ⟨l, H2, I2, pl, el, e2⟩ => ?_)
  subst el e2
  refine thn (po_none.run pins s2 σ H2 (fun o H3 => o = none ∧ H3 = H2) I2 ⟨rfl, rfl⟩) fun vu s3 ⟨u, H3, I3, pu, eu, e3⟩ => ?_
  subst eu e3
  refine thn (hst.run pins s3 σ H3 (fun o H4 => o = some (-1) ∧ H4 = H3) I3 ⟨1, rfl, -1, rfl, rfl, rfl⟩) fun vs s4 ⟨o, H4, I4, ps, eo, e4⟩ => ?_
  subst eo e4
  have I5 : Inv X pins σ H4 { s4 with heap := s4.heap.push { cls := .type "slice", data := .fields #[vl, vu, vs] } } := I4.kept (t' := s4.toks) fun b ob q => Heap.get?_push_of_some _ q
  obtain ⟨l, rfl, hl⟩ := IsPart.raw pl
  obtain ⟨u, rfl, hu⟩ := IsPart.raw pu
  obtain ⟨st, rfl, hst2⟩ := IsPart.raw ps
  show wpAny (model X.prog X.w) X.A (subscriptTail e (.Slice none none (some (.UnaryOp .USub (.Constant (.int 1) k p1) p2)) p3) (.str z t) (.ref s4.heap.objs.size)) (EP X pins σ Q) X.xe { s4 with heap := s4.heap.push { cls := .type "slice", data := .fields #[partValue l, partValue u, partValue st] } }
  refine tail_any (ops := [.str z t, .ref s4.heap.objs.size]) (typeIs_str _ _ _) F.slot_str_getitem.lookup ?_ (by with_unfolding_all rfl)
  obtain ⟨os, hos, hcs, hds⟩ := Heap.IsSliceOf.new s4.heap (partValue l) (partValue u) (partValue st)
  refine wpAny_getItem_str_slice (l := l) (u := u) (st := st) ⟨os, hos, hcs, hds⟩ (by rw [hst2]; rfl) ?_
  unfold sliceMade slicePicked
  rw [hl, hu, hst2]
  show Made.post (if ((-1 : Int) == 1 && (Builtin.Str.strSliceIndices none none (-1) z.length).length == z.length) = true then Made.val (.str z t) else Made.str ⟨((Builtin.Str.strSliceIndices none none (-1) z.length).filterMap (z.cps[·]?)).toArray⟩) (EP X pins σ Q) _
  rw [show ((-1 : Int) == 1 && (Builtin.Str.strSliceIndices none none (-1) z.length).length == z.length) = false by rw [show ((-1 : Int) == 1) = false by decide, Bool.false_and], if_neg Bool.false_ne_true, rev_text]
  refine ⟨?_, .str _, H4, I5.tok _, ⟨_, rfl⟩, q⟩
  show z.cps.toList.reverse.toArray.size ≤ sizeLine
  rw [List.size_toArray, List.length_reverse, Array.length_toList]
  exact hz
section
variable {K : PySem.W.Frag} {σ : L2.St} {G H : Hp} {te : TE}
theorem er_revS {l : List Nat} (h : Er K te σ H (.s (S l))) (hz : l.length ≤ 100000) : Er K (tRevS te) σ H (.s (S l.reverse)) := fun H1 e1 Q q =>
  h H1 e1 _ fun v H2 e2 z => ⟨S l, z, sz_of hz, q _ H2 e2 (by show V.str _ = V.str _; congr 1)⟩
end
section
variable {K : PySem.W.Frag} {σ : L2.St} {G H : Hp} {te : TE} {ds : List Dd} {xs : List V}
theorem isE_rev : ∀ {ds : List Dd} {vs : List V}, IsE K H ds vs → IsE K H ds.reverse vs.reverse
  | [], vs, h => by
    have : vs = [] := h
    subst this
    exact rfl
  | d :: ds, vs, ⟨x, r, e, h1, h2⟩ => by
    subst e
    rw [List.reverse_cons, List.reverse_cons]
    exact isE_app (isE_rev h2) ⟨x, [], rfl, h1, rfl⟩
theorem ef_revT (h : Ef K te σ G (.U ds)) : Ef K (tRevT K te) σ G (.U ds.reverse) := fun G1 A e1 e2 Q q =>
  h G1 A e1 e2 _ fun v G2 A2 s2 ⟨p, vs, ev, hp, hE⟩ => ⟨p, vs, ev, ex_t s2.v hp, fun l hl => q _ (upd G2 l (.tup vs.reverse)) _ (s2.trans (Step.new s2.v hl)) ⟨l, vs.reverse, rfl, st_of upd_same, IsE.mono (Ex.new (ex_out s2.v hl)) (isE_rev hE)⟩⟩
theorem er_revL {xs : List V} (h : Er K te σ H (.l xs)) : Er K (tRevL K te) σ H (.n xs.reverse) := fun H1 e1 Q q =>
  h H1 e1 _ fun v H2 e2 ⟨p, ev, hp⟩ => ⟨p, xs, ev, hp, fun l hl => q _ _ (e2.trans (Ex.new hl)) ⟨l, rfl, upd_same⟩⟩
end
theorem pe_revT_k {X : Cx} {K : PySem.W.Frag} {e : Expr} {te : TE} {k : Nat} {p1 p2 p3 pos : Pos} (he : PE X e te) (hK : X.K = K := by rfl) : PE X (.Subscript e (.Slice none none (some (.UnaryOp .USub (.Constant (.int 1) k p1) p2)) p3) pos) (tRevT K te) := hK ▸ pe_revT he
theorem pe_revL_k {X : Cx} {K : PySem.W.Frag} {e : Expr} {te : TE} {k : Nat} {p1 p2 p3 pos : Pos} (he : PE X e te) (hK : X.K = K := by rfl) : PE X (.Subscript e (.Slice none none (some (.UnaryOp .USub (.Constant (.int 1) k p1) p2)) p3) pos) (tRevL K te) := hK ▸ pe_revL he
end Mi

set_option maxHeartbeats 2000000
namespace Mi
open PySem PySem.Spec PyProof.Rows L2 Evl
/-! ### all parameters by name, in the other order -/
structure AtW (K : PySem.W.Frag) (mg : Str → Option Value) (x : Str) (st : Stmt) (ps : List Str) : Prop where
  ex : ∃ f fd, mg x = some (.ref f) ∧ Fun K x x st f fd ∧ ∀ (s : Shared) (ws : List Value), ws.length = ps.length → BindsTo s fd ⟨[], ps.reverse.zip ws⟩ (ps.zip ws.reverse)
structure HasW (P : Program) (w : World) (K : PySem.W.Frag) (mg : Str → Option Value) (base : Heap) (k : Nat) (x : Str) (ps : List Str) (sp : Sp) : Prop where
  ex : ∃ f fd, mg x = some (.ref f) ∧ PySem.W.keepIn K (.ref f) = true ∧ FnOk P w K mg base CX0 k f fd ps sp ∧ ∀ (s : Shared) (ws : List Value), ws.length = ps.length → BindsTo s fd ⟨[], ps.reverse.zip ws⟩ (ps.zip ws.reverse)
theorem Fun.okR {P : Program} {w : World} {K : PySem.W.Frag} {mg : Str → Option Value} {base : Heap} {x : Str} {st : Stmt} {f : Addr} {fd : FuncData} {N ps : List Str} {k : Nat} {T : Type} {pre : T → Prop} {args : T → List Dd} {ret : T → Dd}
    (F : Fun K x x st f fd) (Sc : FnScope N ps (defScope st)) (hl : ∀ a, (args a).length = ps.length)
    (hbody : ∀ (cdv : Value) (A : Around) (outer : List Env) (s : Shared) (H : Hp) (a : T) (vs : List V) (Q : VK) (E : XK), Room k (A.deeper (envOfC x (defScope st) s.heap.objs.size f cdv)) → pre a → IsAll K H (args a) vs →
      (∀ v H', Ex H H' → Is K H' (ret a) v → Q v H') →
      ∃ t, PSs (cxOf CX0 P w K mg base N x (defScope st) f cdv A outer s H E).nox (defBody st) t ∧ t { nx := fun _ H' => Q .non H', rt := Q } (start N vs) H) :
    FnOk P w K mg base CX0 (k + 1) f fd ps (spR K pre args ret) := by
  refine F.ok Sc (fun vs H Q E hsp => ?_) (fun cdv A outer s H vs Q E hr hsp => ?_)
  · obtain ⟨a, _, hv, _⟩ := hsp
    rw [← hv.len, hl]
  · obtain ⟨a, hp, hv, hk⟩ := hsp
    exact hbody cdv A outer s H a vs Q E hr hp hv hk
theorem Fun.okF {P : Program} {w : World} {K : PySem.W.Frag} {mg : Str → Option Value} {base : Heap} {x : Str} {st : Stmt} {f : Addr} {fd : FuncData} {N ps : List Str} {k : Nat} {T : Type} {pre : T → Prop} {args : T → List Dd} {ret : T → Dd}
    (F : Fun K x x st f fd) (Sc : FnScope N ps (defScope st)) (hl : ∀ a, (args a).length = ps.length)
    (hbody : ∀ (cdv : Value) (Ar : Around) (outer : List Env) (s : Shared) (G A : Hp) (a : T) (vs : List V) (Q : VK) (E : XK), Room k (Ar.deeper (envOfC x (defScope st) s.heap.objs.size f cdv)) → pre a → Ex G A → IsAll K G (args a) vs →
      (∀ v G' A', Step G A G' A' → Is K G' (ret a) v → Q v A') →
      ∃ t, PSs (cxOf CX0 P w K mg base N x (defScope st) f cdv Ar outer s A E).nox (defBody st) t ∧ t { nx := fun _ A' => Q .non A', rt := Q } (start N vs) A) :
    FnOk P w K mg base CX0 (k + 1) f fd ps (spF K pre args ret) := by
  refine F.ok Sc (fun vs H Q E hsp => ?_) (fun cdv Ar outer s A vs Q E hr hsp => ?_)
  · obtain ⟨a, _, G, _, hv, _⟩ := hsp
    rw [← hv.len, hl]
  · obtain ⟨a, hp, G, hA, hv, hk⟩ := hsp
    exact hbody cdv Ar outer s G A a vs Q E hr hp hA hv hk
theorem At.has {P : Program} {w : World} {K : PySem.W.Frag} {mg : Str → Option Value} {base : Heap} {x : Str} {st : Stmt} {ps : List Str} {k : Nat} {sp : Sp} (h : At K mg x st ps) (hf : ∀ {f fd}, Fun K x x st f fd → FnOk P w K mg base CX0 k f fd ps sp) : Has P w K mg base k x ps sp := by
  obtain ⟨f, fd, hm, F, b0, b1, b2⟩ := h.ex
  exact ⟨f, fd, hm, F.kp, hf F, b0, b1, b2⟩
theorem AtW.has {P : Program} {w : World} {K : PySem.W.Frag} {mg : Str → Option Value} {base : Heap} {x : Str} {st : Stmt} {ps : List Str} {k : Nat} {sp : Sp} (h : AtW K mg x st ps) (hf : ∀ {f fd}, Fun K x x st f fd → FnOk P w K mg base CX0 k f fd ps sp) : HasW P w K mg base k x ps sp := by
  obtain ⟨f, fd, hm, F, b⟩ := h.ex
  exact ⟨f, fd, hm, F.kp, hf F, b⟩
theorem pe_bm0_k {X : Cx} {K : PySem.W.Frag} {o : Expr} {to : TE} {name : Str} {apos cpos : Pos} {T id : String} {r : V → List V → Hp → VK → Prop} (pa : PlainAttrs T) (slot : Slot T name id) (hty : typeOf (.builtin id) = pure (.type "method_descriptor")) (hm : MtR X id r) (ho : PE X o to)
    (hK : X.K = K := by rfl) (hbase : attributeBase o name X.env (eval o X.env) = eval o X.env := by rfl) (hline : (apos.endLine == cpos.line) = true := by rfl) : PE X (.Call (.Attribute o name apos) [] [] cpos) (tBM0 K T r to) := hK ▸ pe_bm0 pa slot hty hm ho hbase hline
def tCallW (sp : Sp) (t : TA) : TE := fun σ H Q => t σ H fun vs H2 => sp vs.reverse H2 Q E0
theorem pe_callW {X : Cx} {k : Nat} {ps : List Str} {sp : Sp} {x : Str} {p pos : Pos} {kws : List Keyword} {t : TA} (F : HasW X.prog X.w X.K X.mg X.base k x ps sp) (hr : Room k X.A) (hkw : PK X kws t) (hg : Gl X x := by rfl) (hdb : (x == ("__debug__" : Str)) = false := by decide)
    (hall : (backToKw pos (keywordEach kws X.env)).all (·.1.isSome) = true := by rfl)
    (hks : (backToKw pos (keywordEach kws X.env)).filterMap (·.1) = ps.reverse := by rfl)
    (hpl : (backToKw pos (keywordEach kws X.env)).any (·.1.isNone) = false := by rfl) :
    PE X (.Call (.Name x p) [] kws pos) (tCallW sp t) := by
  obtain ⟨f, fd, hm, hk, F, hb⟩ := F.ex
  refine ⟨fun pins s σ H Q I h => ?_⟩
  refine wpAny_Call_Name_kw (ld_glob I hg hm ?_ hdb)
  refine PySem.W.callWith_KW0 (h₀ := X.base) I.ok.mod.kin hk hall (thn (hkw.run pos pins s σ H _ I h) fun ws s2 ⟨zs, H2, I2, rz, q2⟩ => ⟨I2.kIn, ?_⟩) hpl
  rw [hks]
  have hl := F.len _ _ _ _ q2
  rw [List.length_reverse] at hl
  have hw : ws.length = ps.length := by rw [← rz.length]; exact hl
  refine wpAny_call (codeAny_mono (F.run X.A X.stack s2 H2 ⟨[], ps.reverse.zip ws⟩ ws.reverse zs.reverse Q E0 hr I2.env0 (hb s2 ws hw) rz.reverse q2) fun r s' hq => ?_)
  cases r with
  | error e => exact pass0 pins σ H2 s2 e s' I2 hq
  | ok fl =>
    cases fl with
    | ret u => exact I2.after hq
    | next => exact False.elim hq
    | brk => exact False.elim hq
    | cont => exact False.elim hq
section
variable {K : PySem.W.Frag} {σ : L2.St} {G H : Hp} {te : TE} {tr : TA} {d : Dd} {ds : List Dd} {D : Ends} {tz : TS}
theorem isAll_app : ∀ {as bs : List Dd} {us vs : List V}, IsAll K H as us → IsAll K H bs vs → IsAll K H (as ++ bs) (us ++ vs)
  | _, _, _, _, .nil, b => b
  | _, _, _, _, .cons a r, b => .cons a (isAll_app r b)
theorem isAll_rev : ∀ {ds : List Dd} {vs : List V}, IsAll K H ds vs → IsAll K H ds.reverse vs.reverse
  | _, _, .nil => .nil
  | _, _, .cons a r => by
    rw [List.reverse_cons, List.reverse_cons]
    exact isAll_app (isAll_rev r) (.cons a .nil)
theorem er_callW {T : Type} {pre : T → Prop} {args : T → List Dd} {ret : T → Dd} (a : T) (h : Era K tr σ H ds) (hd : ds.reverse = args a) (hp : pre a) : Er K (tCallW (spR K pre args ret) tr) σ H (ret a) := fun H1 e Q q =>
  h H1 e _ fun vs H2 e2 z => ⟨a, hp, hd ▸ isAll_rev z, fun v H' e3 hv => q v H' (e2.trans e3) hv⟩
theorem er_callWF {T : Type} {pre : T → Prop} {args : T → List Dd} {ret : T → Dd} (a : T) (h : Era K tr σ H ds) (hd : ds.reverse = args a) (hp : pre a) : Er K (tCallW (spF K pre args ret) tr) σ H (ret a) := fun H1 e Q q =>
  h H1 e _ fun vs H2 e2 z => ⟨a, hp, H2, Ex.refl _, hd ▸ isAll_rev z, fun v G' A' s hv => q v A' (e2.trans s.a) (hv.mono s.v)⟩
/-! ### isinstance of an object of ours -/
theorem kit_own {C : Addr} : PySem.W.kitOne K (.ref C) (.ref C) = some true := by
  unfold PySem.W.kitOne
  rw [if_pos (by simp)]
theorem rc_isiO {C : Addr} (O : ObTy K C) (ht : ∀ H1 v, Is K H1 d v → ∃ a dx fs, v = .ref a ∧ H1 a = some (.ins C dx fs)) : Rc K (rIsi K) [d, .v (.ref C)] (.b true) := fun vs H1 h Q q => by
  rcases h with _ | ⟨h1, _ | ⟨h2, _ | _⟩⟩
  rename_i v u
  obtain ⟨a, dx, fs, rfl, hx⟩ := ht H1 v h1
  obtain rfl : u = V.ref C := h2
  exact ⟨_, _, _, _, true, rfl, .own C, .base (.ins hx O.cl O.fc O.sp O.tk O.mr), kit_own, q _ H1 (Ex.refl _) rfl⟩
/-! ### != of tuples -/
theorem ro_neU {ns ms : List Int} : Ro K (rNeD K) (.u (vis ns)) (.u (vis ms)) (.v (.bl (!decide (ns = ms)))) := by
  rintro _ _ H1 ⟨p, rfl, hp⟩ ⟨p', rfl, hp'⟩ Q q
  refine ⟨_, _, .tup hp (dpAll_ints ns), .tup hp' (dpAll_ints ms), shaped_tup ns, shaped_tup ms, q _ H1 (Ex.refl H1) ?_⟩
  show V.bl (!PyData.eqvAll _ _) = _
  rw [eqv_ints]
/-! ### xs.clear(), xs.extend(ys) -/
theorem s_clear {l : Addr} {xs : List V} (hl : H l = some (.lst xs)) (ha : Er K te σ H (.v (.ref l))) (k : ∀ H1, Ex H H1 → tz D σ (upd H1 l (.lst []))) : tSeq (tDrop (tBM0 K "list" rClear te)) tz D σ H :=
  ha H (Ex.refl _) _ fun v H1 e z => by
    obtain rfl : v = V.ref l := z
    exact ⟨Or.inl ⟨rfl, xs, sq_of (e l _ hl)⟩, l, xs, rfl, rfl, e l _ hl, k H1 e⟩
theorem s_extend {l : Addr} {xs zs : List V} (hl : H l = some (.lst xs)) (ha : Er K te σ H (.v (.ref l))) (h : Era K tr σ H [.n zs]) (hz : xs.length + zs.length ≤ 100000) (k : ∀ H1, Ex H H1 → tz D σ (upd H1 l (.lst (xs ++ zs)))) : tSeq (tDrop (tBM K "list" rExtend te tr)) tz D σ H :=
  ha H (Ex.refl _) _ fun v H1 e z => by
    obtain rfl : v = V.ref l := z
    refine ⟨Or.inl ⟨rfl, xs, sq_of (e l _ hl)⟩, h H1 e _ fun vs H2 e2 z2 => ?_⟩
    rcases z2 with _ | ⟨⟨p, rfl, hp⟩, _ | _⟩
    exact ⟨l, p, xs, zs, rfl, rfl, e2 l _ (e l _ hl), hp, sz_of hz, k H2 (e.trans e2)⟩
end
end Mi

set_option maxHeartbeats 2000000
namespace Mi
open PySem PySem.Spec PyProof.Rows L2 Evl
/-! ### the mathematics of peeling all layers at once -/
abbrev Lay := List Nat
def okQ (p : Nat × Nat) : Bool := p.1 == p.2 || (p.1 == 45 || p.2 == 45)
def agQ (a b : Lay) : Bool := (a.zip b).all okQ
def frQ (a b : Lay) : Lay := (a.zip b).map fun p => if p.2 = 45 then p.1 else 45
def prQ (a b : Lay) : Lay := (a.zip b).map fun p => if p.2 = 45 then p.1 else p.2
theorem frQ_len {a b : Lay} (h : a.length = b.length) : (frQ a b).length = a.length := by
  unfold frQ
  rw [List.length_map, List.length_zip]
  omega
theorem prQ_len {a b : Lay} (h : a.length = b.length) : (prQ a b).length = a.length := by
  unfold prQ
  rw [List.length_map, List.length_zip]
  omega
theorem agQ_iff : ∀ {a b : Lay}, a.length = b.length → (agQ a b = true ↔ ∀ c, c < a.length → (a.getD c 0 = b.getD c 0 ∨ a.getD c 0 = 45 ∨ b.getD c 0 = 45))
  | [], [], _ => by simp [agQ]
  | x :: a, y :: b, h => by
    have ih := agQ_iff (a := a) (b := b) (by simpa using h)
    unfold agQ at ih ⊢
    rw [List.zip_cons_cons, List.all_cons, Bool.and_eq_true, ih]
    unfold okQ
    constructor
    · rintro ⟨h1, h2⟩ c hc
      cases c with
      | zero => simpa using h1
      | succ c => exact h2 c (by simpa using hc)
    · intro h2
      refine ⟨by simpa using h2 0 (by simp), fun c hc => h2 (c + 1) (by simpa using hc)⟩
theorem frQ_at {a b : Lay} (h : a.length = b.length) {c : Nat} (hc : c < a.length) : (frQ a b).getD c 0 = if b.getD c 0 = 45 then a.getD c 0 else 45 := by
  have h1 : a[c]? = some a[c] := List.getElem?_eq_getElem hc
  have h2 : b[c]? = some b[c] := List.getElem?_eq_getElem (by omega)
  have hz : (a.zip b)[c]? = some (a[c], b[c]) := List.getElem?_zip_eq_some (z := (a[c], b[c])) |>.mpr ⟨h1, h2⟩
  unfold frQ
  rw [List.getD_eq_getElem?_getD, List.getD_eq_getElem?_getD, List.getD_eq_getElem?_getD, List.getElem?_map, hz, h1, h2]
  rfl
theorem prQ_at {a b : Lay} (h : a.length = b.length) {c : Nat} (hc : c < a.length) : (prQ a b).getD c 0 = if b.getD c 0 = 45 then a.getD c 0 else b.getD c 0 := by
  have h1 : a[c]? = some a[c] := List.getElem?_eq_getElem hc
  have h2 : b[c]? = some b[c] := List.getElem?_eq_getElem (by omega)
  have hz : (a.zip b)[c]? = some (a[c], b[c]) := List.getElem?_zip_eq_some (z := (a[c], b[c])) |>.mpr ⟨h1, h2⟩
  unfold prQ
  rw [List.getD_eq_getElem?_getD, List.getD_eq_getElem?_getD, List.getD_eq_getElem?_getD, List.getElem?_map, hz, h1, h2]
  rfl
theorem lay_ext {a b : Lay} (h : a.length = b.length) (he : ∀ c, c < a.length → a.getD c 0 = b.getD c 0) : a = b := by
  apply List.ext_getElem h
  intro i h1 h2
  have := he i h1
  rw [List.getD_eq_getElem?_getD, List.getD_eq_getElem?_getD, List.getElem?_eq_getElem h1, List.getElem?_eq_getElem h2] at this
  exact this
theorem frQ_comm {a b c : Lay} (h1 : a.length = b.length) (h2 : a.length = c.length) : frQ (frQ a b) c = frQ (frQ a c) b := by
  have l1 := frQ_len h1
  have l2 := frQ_len h2
  have l3 := frQ_len (a := frQ a b) (b := c) (by omega)
  have l4 := frQ_len (a := frQ a c) (b := b) (by omega)
  refine lay_ext (by omega) fun i hi => ?_
  rw [frQ_at (by omega) (by omega), frQ_at (by omega) (by omega), frQ_at (by omega) (by omega), frQ_at (by omega) (by omega)]
  split <;> split <;> rfl
theorem agQ_free {a b t : Lay} (h1 : a.length = b.length) (h2 : a.length = t.length) (h : agQ a t = true) : agQ (frQ a b) t = true := by
  have l1 := frQ_len h1
  rw [agQ_iff (by omega)] at h ⊢
  intro c hc
  rw [frQ_at h1 (by omega)]
  by_cases hb : b.getD c 0 = 45
  · rw [if_pos hb]
    exact h c (by omega)
  · rw [if_neg hb]
    exact .inr (.inl rfl)
/-- a press over what fits: the stamp agrees, and what lay there fits what is left -/
theorem agQ_press {x t y : Lay} (h1 : x.length = t.length) (h2 : x.length = y.length) : agQ (prQ x t) y = true ↔ agQ y t = true ∧ agQ x (frQ y t) = true := by
  have l1 := prQ_len h1
  have l2 := frQ_len (a := y) (b := t) (by omega)
  rw [agQ_iff (by omega), agQ_iff (by omega), agQ_iff (by omega)]
  constructor
  · intro h
    refine ⟨fun c hc => ?_, fun c hc => ?_⟩
    · have q := h c (by omega)
      rw [prQ_at h1 (by omega)] at q
      by_cases ht : t.getD c 0 = 45
      · exact .inr (.inr ht)
      · rw [if_neg ht] at q
        rcases q with q | q | q
        · exact .inl q.symm
        · exact absurd q ht
        · exact .inr (.inl q)
    · have q := h c (by omega)
      rw [prQ_at h1 (by omega)] at q
      rw [frQ_at (by omega) (by omega)]
      by_cases ht : t.getD c 0 = 45
      · rw [if_pos ht] at q ⊢
        exact q
      · rw [if_neg ht]
        exact .inr (.inr rfl)
  · rintro ⟨ha, hb⟩ c hc
    have q1 := ha c (by omega)
    have q2 := hb c (by omega)
    rw [frQ_at (by omega) (by omega)] at q2
    rw [prQ_at h1 (by omega)]
    by_cases ht : t.getD c 0 = 45
    · rw [if_pos ht] at q2 ⊢
      exact q2
    · rw [if_neg ht]
      rcases q1 with q | q | q
      · exact .inl q.symm
      · exact .inr (.inr q)
      · exact absurd q ht
theorem prQ_assoc {x n t : Lay} (h1 : x.length = n.length) (h2 : x.length = t.length) : prQ x (prQ n t) = prQ (prQ x n) t := by
  have l1 := prQ_len h1
  have l2 := prQ_len (a := n) (b := t) (by omega)
  have l3 := prQ_len (a := x) (b := prQ n t) (by omega)
  have l4 := prQ_len (a := prQ x n) (b := t) (by omega)
  refine lay_ext (by omega) fun c hc => ?_
  rw [prQ_at (by omega) (by omega), prQ_at (by omega) (by omega), prQ_at (by omega) (by omega), prQ_at (by omega) (by omega)]
  by_cases ht : t.getD c 0 = 45
  · rw [if_pos ht, if_pos ht]
  · rw [if_neg ht, if_neg ht, if_neg ht]
/-! ### stamps by name, layers of one size -/
section
variable {N : Type} [DecidableEq N] (st : N → Lay) (size : Nat)
def agA (ls : List Lay) (n : N) : Bool := ls.all fun l => agQ l (st n)
def plA (ls : List Lay) (n : N) : List Lay := ls.map fun l => frQ l (st n)
def Siz (ls : List Lay) : Prop := ∀ l ∈ ls, l.length = size
variable {st size}
theorem plA_siz {ls : List Lay} {n : N} (h : Siz size ls) (hn : (st n).length = size) : Siz size (plA st ls n) := by
  intro l hl
  obtain ⟨x, hx, rfl⟩ := List.mem_map.mp hl
  have := h x hx
  rw [frQ_len (by omega)]
  exact this
theorem plA_comm {ls : List Lay} {n m : N} (h : Siz size ls) (hn : (st n).length = size) (hm : (st m).length = size) : plA st (plA st ls n) m = plA st (plA st ls m) n := by
  unfold plA
  rw [List.map_map, List.map_map]
  apply List.map_congr_left
  intro l hl
  have := h l hl
  exact frQ_comm (by omega) (by omega)
theorem agA_more {ls : List Lay} {n m : N} (h : Siz size ls) (hn : (st n).length = size) (hm : (st m).length = size) (ha : agA st ls m = true) : agA st (plA st ls n) m = true := by
  unfold agA at ha ⊢
  rw [List.all_eq_true] at ha ⊢
  intro l hl
  obtain ⟨x, hx, rfl⟩ := List.mem_map.mp hl
  have := h x hx
  exact agQ_free (by omega) (by omega) (ha x hx)
variable (st)
def PlS : List Lay → List N → Prop
  | _, [] => True
  | ls, n :: r => agA st ls n = true ∧ PlS (plA st ls n) r
def plL (ls : List Lay) (q : List N) : List Lay := q.foldl (plA st) ls
variable {st}
theorem PlS.more {n : N} (hn : (st n).length = size) : ∀ {q : List N} {ls : List Lay}, Siz size ls → (∀ m ∈ q, (st m).length = size) → PlS st ls q → PlS st (plA st ls n) q
  | [], _, _, _, _ => trivial
  | m :: r, ls, h, hq, hp => by
    have hm := hq m (List.mem_cons_self ..)
    refine ⟨agA_more h hn hm hp.1, ?_⟩
    rw [plA_comm h hn hm]
    exact PlS.more hn (plA_siz h hm) (fun x hx => hq x (List.mem_cons_of_mem _ hx)) hp.2
/-- a stamp may be peeled off earlier -/
theorem PlS.erase {n : N} (hn : (st n).length = size) : ∀ {q : List N} {ls : List Lay}, Siz size ls → (∀ m ∈ q, (st m).length = size) → PlS st ls q → PlS st (plA st ls n) (q.erase n)
  | [], _, _, _, _ => trivial
  | m :: r, ls, h, hq, hp => by
    have hm := hq m (List.mem_cons_self ..)
    have hr : ∀ x ∈ r, (st x).length = size := fun x hx => hq x (List.mem_cons_of_mem _ hx)
    by_cases e : m = n
    · subst e
      rw [List.erase_cons_head]
      exact hp.2
    · rw [List.erase_cons_tail (by simpa using e)]
      refine ⟨agA_more h hn hm hp.1, ?_⟩
      rw [plA_comm h hn hm]
      exact PlS.erase hn (plA_siz h hm) hr hp.2
theorem plL_siz : ∀ {q : List N} {ls : List Lay}, Siz size ls → (∀ m ∈ q, (st m).length = size) → Siz size (plL st ls q)
  | [], _, h, _ => h
  | m :: r, ls, h, hq => plL_siz (q := r) (plA_siz h (hq m (List.mem_cons_self ..))) fun x hx => hq x (List.mem_cons_of_mem _ hx)
/-- where p leaves all of S stuck, every peeling within S stays within p -/
theorem within : ∀ {p q : List N} {ls : List Lay} {S : N → Prop}, Siz size ls → (∀ n ∈ p, (st n).length = size) → (∀ n ∈ q, (st n).length = size) → q.Nodup → (∀ n ∈ q, S n) → (∀ n, S n → n ∉ p → agA st (plL st ls p) n = false) → PlS st ls q → ∀ n ∈ q, n ∈ p
  | [], q, ls, S, h, _, _, _, hq, hst, hp, n, hn => by
    cases q with
    | nil => cases hn
    | cons m r =>
      have z : agA st ls m = false := hst m (hq m (List.mem_cons_self ..)) (by simp)
      rw [hp.1] at z
      cases z
  | m :: p, q, ls, S, h, hps, hqs, hqn, hq, hst, hp, n, hn => by
    have hm := hps m (List.mem_cons_self ..)
    by_cases e : n = m
    · rw [e]
      exact List.mem_cons_self ..
    · have key := within (p := p) (q := q.erase m) (ls := plA st ls m) (S := fun n => S n ∧ n ≠ m) (plA_siz h hm) (fun x hx => hps x (List.mem_cons_of_mem _ hx)) (fun x hx => hqs x (List.mem_of_mem_erase hx)) (hqn.erase m) (fun x hx => ⟨hq x (List.mem_of_mem_erase hx), fun z => by
        rw [z] at hx
        exact ((List.Nodup.mem_erase_iff hqn).mp hx).1 rfl⟩) (fun x hx hxp => hst x hx.1 fun z => (List.mem_cons.mp z).elim hx.2 hxp) (PlS.erase hm h hqs hp)
      exact List.mem_cons_of_mem _ (key n ((List.mem_erase_of_ne e).mpr hn))
/-- two peelings of ns that leave it stuck peel off the same stamps -/
theorem same_peel {ns p q : List N} {ls : List Lay} (h : Siz size ls) (hs : ∀ n ∈ ns, (st n).length = size) (hp : ∀ n ∈ p, n ∈ ns) (hq : ∀ n ∈ q, n ∈ ns) (np : p.Nodup) (nq : q.Nodup) (pp : PlS st ls p) (pq : PlS st ls q)
    (sp : ∀ n ∈ ns, n ∉ p → agA st (plL st ls p) n = false) (sq : ∀ n ∈ ns, n ∉ q → agA st (plL st ls q) n = false) : ∀ n, n ∈ p ↔ n ∈ q := fun n =>
  ⟨within (S := fun n => n ∈ ns) h (fun x hx => hs x (hq x hx)) (fun x hx => hs x (hp x hx)) np hp sq pp n, within (S := fun n => n ∈ ns) h (fun x hx => hs x (hp x hx)) (fun x hx => hs x (hq x hx)) nq hq sp pq n⟩
/-! ### the program's way: the first that agrees -/
variable (st)
def stuckG : Nat → List Lay → List N → List N
  | 0, _, ns => ns
  | k + 1, ls, ns => match ns.find? (agA st ls) with
    | none => ns
    | some n => stuckG k (plA st ls n) (ns.filter fun m => !decide (m = n))
variable {st}
theorem stuckG_is : ∀ {k : Nat} {ls : List Lay} {ns : List N}, ns.length ≤ k → ns.Nodup → ∃ p : List N, p.Nodup ∧ (∀ n ∈ p, n ∈ ns) ∧ PlS st ls p ∧ stuckG st k ls ns = (ns.filter fun m => !decide (m ∈ p)) ∧ ∀ n ∈ ns, n ∉ p → agA st (plL st ls p) n = false
  | 0, ls, ns, hl, _ => by
    have : ns = [] := List.length_eq_zero_iff.mp (by omega)
    subst this
    exact ⟨[], List.nodup_nil, by simp, trivial, rfl, by simp⟩
  | k + 1, ls, ns, hl, hn => by
    unfold stuckG
    cases hf : ns.find? (agA st ls) with
    | none =>
      refine ⟨[], List.nodup_nil, by simp, trivial, (List.filter_eq_self.mpr fun _ _ => by simp).symm, fun n h1 _ => ?_⟩
      have := List.find?_eq_none.mp hf n h1
      show agA st ls n = false
      simpa using this
    | some n =>
      have hm := List.mem_of_find?_eq_some hf
      have ha : agA st ls n = true := List.find?_some hf
      have hlt : (ns.filter fun m => !decide (m = n)).length < ns.length := by
        refine List.length_filter_lt_length_iff_exists.mpr ⟨n, hm, by simp⟩
      obtain ⟨p, p1, p2, p3, p4, p5⟩ := stuckG_is (k := k) (ls := plA st ls n) (ns := ns.filter fun m => !decide (m = n)) (by omega) (hn.filter _)
      have hnp : n ∉ p := fun z => by
        have := p2 n z
        simp at this
      refine ⟨n :: p, List.nodup_cons.mpr ⟨hnp, p1⟩, ?_, ⟨ha, p3⟩, ?_, ?_⟩
      · intro x hx
        rcases List.mem_cons.mp hx with rfl | hx
        · exact hm
        · exact (List.mem_filter.mp (p2 x hx)).1
      · show stuckG st k (plA st ls n) _ = _
        rw [p4, List.filter_filter]
        apply List.filter_congr
        intro x _
        by_cases h1 : x = n <;> by_cases h2 : x ∈ p <;> simp [h1, h2]
      · intro x hx hxp
        have h1 : x ≠ n := fun z => hxp (by rw [z]; exact List.mem_cons_self ..)
        have h2 : x ∉ p := fun z => hxp (List.mem_cons_of_mem _ z)
        exact p5 x (List.mem_filter.mpr ⟨hx, by simpa using h1⟩) h2
/-- nothing is stuck: some order of all peels them off -/
theorem stuckG_nil {k : Nat} {ls : List Lay} {ns : List N} (hl : ns.length ≤ k) (hn : ns.Nodup) (h : stuckG st k ls ns = []) : ∃ p : List N, p.Perm ns ∧ PlS st ls p := by
  obtain ⟨p, p1, p2, p3, p4, p5⟩ := stuckG_is (st := st) (ls := ls) hl hn
  rw [h] at p4
  refine ⟨p, ?_, p3⟩
  refine (List.perm_ext_iff_of_nodup p1 hn).mpr fun x => ⟨p2 x, fun hx => ?_⟩
  have := List.filter_eq_nil_iff.mp p4.symm x hx
  simpa using this
theorem stuckG_all {k : Nat} {ls : List Lay} {ns q : List N} (h : Siz size ls) (hs : ∀ n ∈ ns, (st n).length = size) (hl : ns.length ≤ k) (hn : ns.Nodup) (hq : q.Perm ns) (pq : PlS st ls q) : stuckG st k ls ns = [] := by
  obtain ⟨p, p1, p2, p3, p4, p5⟩ := stuckG_is (st := st) (ls := ls) hl hn
  rw [p4, List.filter_eq_nil_iff]
  intro x hx
  have := within (S := fun n => n ∈ ns) h (fun y hy => hs y (p2 y hy)) (fun y hy => hs y (hq.mem_iff.mp hy)) (hq.nodup_iff.mpr hn) (fun y hy => hq.mem_iff.mp hy) p5 pq x (hq.mem_iff.mpr hx)
  simpa using this
/-! ### orders that lead from all the starts to all the layers -/
def pressQ (st : N → Lay) (x : Lay) (r : List N) : Lay := r.foldl (fun l n => prQ l (st n)) x
/-- a row leads there exactly if it peels off from its end and the start fits what is left -/
theorem leads_iff {x : Lay} (hx : x.length = size) : ∀ {q : List N} {y : Lay}, y.length = size → (∀ n ∈ q, (st n).length = size) → (agQ (pressQ st x q.reverse) y = true ↔ (PlS st [y] q ∧ agQ x (q.foldl (fun l n => frQ l (st n)) y) = true))
  | [], y, hy, _ => by simp [pressQ, PlS]
  | n :: r, y, hy, hs => by
    have hn := hs n (List.mem_cons_self ..)
    have hr : ∀ m ∈ r, (st m).length = size := fun m hm => hs m (List.mem_cons_of_mem _ hm)
    have lp : ∀ (q : List N) (z : Lay), z.length = size → (∀ m ∈ q, (st m).length = size) → (pressQ st z q).length = size := by
      intro q
      induction q with
      | nil => intro z hz _; exact hz
      | cons m q ih =>
        intro z hz hq
        have hm := hq m (List.mem_cons_self ..)
        exact ih (prQ z (st m)) (by rw [prQ_len (by omega)]; exact hz) fun x hx => hq x (List.mem_cons_of_mem _ hx)
    have e : pressQ st x (n :: r).reverse = prQ (pressQ st x r.reverse) (st n) := by
      unfold pressQ
      rw [List.reverse_cons, List.foldl_append]
      rfl
    have l1 := lp r.reverse x hx fun m hm => hr m (List.mem_reverse.mp hm)
    have ly : (frQ y (st n)).length = size := by rw [frQ_len (by omega)]; exact hy
    rw [e, agQ_press (by omega) (by omega), leads_iff hx (q := r) ly hr]
    show _ ↔ (agA st [y] n = true ∧ PlS st (plA st [y] n) r) ∧ _
    have ea : agA st [y] n = agQ y (st n) := by simp [agA]
    have ep : plA st [y] n = [frQ y (st n)] := rfl
    rw [ea, ep, and_assoc]
    rfl
/-- peeling several layers at once is peeling each -/
theorem PlS_each : ∀ {q : List N} {ls : List Lay}, PlS st ls q ↔ ∀ l ∈ ls, PlS st [l] q
  | [], _ => by simp [PlS]
  | n :: r, ls => by
    have ih := PlS_each (q := r) (ls := plA st ls n)
    constructor
    · rintro ⟨h1, h2⟩ l hl
      have h3 := ih.mp h2
      refine ⟨?_, ?_⟩
      · simpa [agA] using List.all_eq_true.mp h1 l hl
      · exact h3 (frQ l (st n)) (List.mem_map.mpr ⟨l, hl, rfl⟩)
    · intro h
      refine ⟨List.all_eq_true.mpr fun l hl => ?_, ih.mpr fun l hl => ?_⟩
      · have := (h l hl).1
        simpa [agA] using this
      · obtain ⟨x, hx, rfl⟩ := List.mem_map.mp hl
        exact (h x hx).2
/-- what is left when stamps are taken off does not hang on their order -/
theorem left_at : ∀ {q : List N} {y : Lay}, y.length = size → (∀ n ∈ q, (st n).length = size) → (q.foldl (fun l n => frQ l (st n)) y).length = size ∧ ∀ c, c < size → (q.foldl (fun l n => frQ l (st n)) y).getD c 0 = if q.any (fun n => !decide ((st n).getD c 0 = 45)) = true then 45 else y.getD c 0
  | [], y, hy, _ => ⟨hy, fun c hc => by simp⟩
  | n :: r, y, hy, hs => by
    have hn := hs n (List.mem_cons_self ..)
    have ly : (frQ y (st n)).length = size := by rw [frQ_len (by omega)]; exact hy
    obtain ⟨i1, i2⟩ := left_at (q := r) ly fun m hm => hs m (List.mem_cons_of_mem _ hm)
    refine ⟨i1, fun c hc => ?_⟩
    show (r.foldl (fun l n => frQ l (st n)) (frQ y (st n))).getD c 0 = _
    rw [i2 c hc, frQ_at (by omega) (by omega), List.any_cons]
    by_cases h1 : (st n).getD c 0 = 45
    · rw [if_pos h1, decide_eq_true h1]
      simp
    · rw [if_neg h1, decide_eq_false h1]
      simp
theorem left_same {p q : List N} {y : Lay} (hy : y.length = size) (hp : ∀ n ∈ p, (st n).length = size) (h : ∀ n, n ∈ p ↔ n ∈ q) : p.foldl (fun l n => frQ l (st n)) y = q.foldl (fun l n => frQ l (st n)) y := by
  have hq : ∀ n ∈ q, (st n).length = size := fun n hn => hp n ((h n).mpr hn)
  obtain ⟨a1, a2⟩ := left_at hy hp
  obtain ⟨b1, b2⟩ := left_at hy hq
  refine lay_ext (by omega) fun c hc => ?_
  rw [a2 c (by omega), b2 c (by omega)]
  have e : (p.any fun n => !decide ((st n).getD c 0 = 45)) = q.any fun n => !decide ((st n).getD c 0 = 45) := by
    rw [Bool.eq_iff_iff, List.any_eq_true, List.any_eq_true]
    exact ⟨fun ⟨x, hx, z⟩ => ⟨x, (h x).mp hx, z⟩, fun ⟨x, hx, z⟩ => ⟨x, (h x).mpr hx, z⟩⟩
  rw [e]
end
end Mi

set_option maxHeartbeats 2000000
namespace Mi
open PySem PySem.Spec PyProof.Rows L2 Evl
section
variable {N : Type} [DecidableEq N]
/-! ### all orders, row by row -/
def wo (ns : List N) (n : N) : List N := ns.filter fun m => !decide (m = n)
def moreR (ns row : List N) : List (List N) := (ns.filter fun e => !decide (e ∈ row)).map fun e => row ++ [e]
def rowsT (ns : List N) : Nat → List (List N)
  | 0 => [[]]
  | t + 1 => (rowsT ns t).flatMap (moreR ns)
def extR (ns : List N) : Nat → List N → List (List N)
  | 0, row => [row]
  | t + 1, row => (ns.filter fun e => !decide (e ∈ row)).flatMap fun e => extR ns t (row ++ [e])
theorem rows_ext (ns : List N) : ∀ (s t : Nat), rowsT ns (t + s) = (rowsT ns t).flatMap (extR ns s)
  | 0, t => by
    show rowsT ns t = (rowsT ns t).flatMap fun row => [row]
    induction rowsT ns t with
    | nil => rfl
    | cons a r ih => rw [List.flatMap_cons, ← ih]; rfl
  | s + 1, t => by
    have e : t + (s + 1) = (t + 1) + s := by omega
    rw [e, rows_ext ns s (t + 1)]
    show ((rowsT ns t).flatMap (moreR ns)).flatMap (extR ns s) = _
    rw [List.flatMap_assoc]
    congr 1
    funext row
    unfold moreR
    rw [List.flatMap_map]
    rfl
theorem rows_all (ns : List N) (n : Nat) : rowsT ns n = extR ns n [] := by
  have := rows_ext ns n 0
  rw [Nat.zero_add] at this
  rw [this]
  show ([[]] : List (List N)).flatMap (extR ns n) = _
  simp
structure RowP (ns row : List N) (t : Nat) : Prop where
  l : row.length = t
  nd : row.Nodup
  sub : ∀ x ∈ row, x ∈ ns
theorem RowP.more {ns row : List N} {t : Nat} (h : RowP ns row t) {e : N} (h1 : e ∈ ns) (h2 : e ∉ row) : RowP ns (row ++ [e]) (t + 1) := by
  refine ⟨by rw [List.length_append, h.l]; rfl, ?_, fun x hx => ?_⟩
  · exact List.nodup_append.mpr ⟨h.nd, by simp, fun a ha b hb z => h2 (by rw [← List.mem_singleton.mp hb, ← z]; exact ha)⟩
  · rcases List.mem_append.mp hx with q | q
    · exact h.sub x q
    · rw [List.mem_singleton.mp q]
      exact h1
theorem rows_ok (ns : List N) : ∀ (t : Nat), ∀ row ∈ rowsT ns t, RowP ns row t
  | 0, row, h => by
    rw [List.mem_singleton.mp h]
    exact ⟨rfl, List.nodup_nil, by simp⟩
  | t + 1, row, h => by
    obtain ⟨r, hr, hm⟩ := List.mem_flatMap.mp h
    obtain ⟨e, he, rfl⟩ := List.mem_map.mp hm
    obtain ⟨h1, h2⟩ := List.mem_filter.mp he
    exact (rows_ok ns t r hr).more h1 (by simpa using h2)
theorem filt_split {α : Type} (p : α → Bool) : ∀ l : List α, (l.filter fun x => !p x).length + (l.filter p).length = l.length
  | [] => rfl
  | a :: l => by
    have ih := filt_split p l
    rw [List.filter_cons, List.filter_cons, List.length_cons]
    cases p a with
    | true => simp; omega
    | false => simp; omega
theorem rest_len {ns row : List N} {t : Nat} (hn : ns.Nodup) (h : RowP ns row t) : (ns.filter fun e => !decide (e ∈ row)).length + t = ns.length := by
  have h1 : (ns.filter fun e => decide (e ∈ row)).length = row.length := by
    refine List.Perm.length_eq ((List.perm_ext_iff_of_nodup (hn.filter _) h.nd).mpr fun x => ?_)
    rw [List.mem_filter]
    simp only [decide_eq_true_eq]
    exact ⟨fun z => z.2, fun z => ⟨h.sub x z, z⟩⟩
  have h2 := filt_split (fun e => decide (e ∈ row)) ns
  rw [h.l] at h1
  omega
theorem rows_len {ns : List N} (hn : ns.Nodup) : ∀ (t : Nat), (rowsT ns (t + 1)).length = (rowsT ns t).length * (ns.length - t) := fun t => by
  show ((rowsT ns t).flatMap (moreR ns)).length = _
  have key : ∀ l : List (List N), (∀ row ∈ l, RowP ns row t) → (l.flatMap (moreR ns)).length = l.length * (ns.length - t) := by
    intro l
    induction l with
    | nil => intro _; simp
    | cons row r ih =>
      intro h
      have h1 := rest_len hn (h row (List.mem_cons_self ..))
      rw [List.flatMap_cons, List.length_append, ih fun x hx => h x (List.mem_cons_of_mem _ hx), List.length_cons, Nat.add_mul, Nat.one_mul]
      unfold moreR
      rw [List.length_map]
      omega
  exact key _ (rows_ok ns t)
theorem rows_few {ns : List N} (hn : ns.Nodup) (h7 : ns.length ≤ 7) : ∀ t, (rowsT ns t).length ≤ 5040 := by
  have L := rows_len hn
  have l0 : (rowsT ns 0).length = 1 := rfl
  have b1 := L 0
  have b2 := L 1
  have b3 := L 2
  have b4 := L 3
  have b5 := L 4
  have b6 := L 5
  have b7 := L 6
  have m1 : (rowsT ns 1).length ≤ 7 := by rw [b1, l0]; omega
  have up : ∀ {a b c d : Nat}, a ≤ b → c ≤ d → a * c ≤ b * d := fun h1 h2 => Nat.mul_le_mul h1 h2
  have m2 : (rowsT ns 2).length ≤ 42 := by rw [b2]; exact up m1 (show ns.length - 1 ≤ 6 by omega)
  have m3 : (rowsT ns 3).length ≤ 210 := by rw [b3]; exact up m2 (show ns.length - 2 ≤ 5 by omega)
  have m4 : (rowsT ns 4).length ≤ 840 := by rw [b4]; exact up m3 (show ns.length - 3 ≤ 4 by omega)
  have m5 : (rowsT ns 5).length ≤ 2520 := by rw [b5]; exact up m4 (show ns.length - 4 ≤ 3 by omega)
  have m6 : (rowsT ns 6).length ≤ 5040 := by rw [b6]; exact up m5 (show ns.length - 5 ≤ 2 by omega)
  have m7 : (rowsT ns 7).length ≤ 5040 := by rw [b7]; exact up m6 (show ns.length - 6 ≤ 1 by omega)
  have m8 : ∀ k, (rowsT ns (8 + k)).length = 0 := by
    intro k
    induction k with
    | zero => rw [L 7]; have : ns.length - 7 = 0 := by omega
              rw [this, Nat.mul_zero]
    | succ k ih => rw [show 8 + (k + 1) = (8 + k) + 1 by omega, L (8 + k), ih, Nat.zero_mul]
  intro t
  rcases Nat.lt_or_ge t 8 with h | h
  · have : t = 0 ∨ t = 1 ∨ t = 2 ∨ t = 3 ∨ t = 4 ∨ t = 5 ∨ t = 6 ∨ t = 7 := by omega
    rcases this with rfl | rfl | rfl | rfl | rfl | rfl | rfl | rfl <;> omega
  · obtain ⟨k, rfl⟩ : ∃ k, t = 8 + k := ⟨t - 8, by omega⟩
    rw [m8 k]
    omega
theorem rows_perm {ns : List N} (hn : ns.Nodup) {r : List N} (h : r ∈ rowsT ns ns.length) : r.Perm ns := by
  have hr := rows_ok ns _ r h
  have hl := rest_len hn hr
  have h0 : (ns.filter fun e => !decide (e ∈ r)) = [] := List.length_eq_zero_iff.mp (by omega)
  refine (List.perm_ext_iff_of_nodup hr.nd hn).mpr fun x => ⟨hr.sub x, fun hx => ?_⟩
  have := List.filter_eq_nil_iff.mp h0 x hx
  simpa using this
/-! ### the first order -/
section
variable {st : N → Lay} {size : Nat} {ls : List Lay}
def CP (st : N → Lay) (ls : List Lay) (ns : List N) : Prop := stuckG st ns.length ls ns = []
instance (st : N → Lay) (ls : List Lay) (ns : List N) : Decidable (CP st ls ns) := decidable_of_iff ((stuckG st ns.length ls ns).length = 0) List.length_eq_zero_iff
theorem cp_iff (h : Siz size ls) {ns : List N} (hs : ∀ n ∈ ns, (st n).length = size) (hn : ns.Nodup) : CP st ls ns ↔ ∃ q : List N, q.Perm ns ∧ PlS st ls q :=
  ⟨fun z => stuckG_nil (Nat.le_refl _) hn z, fun ⟨q, h1, h2⟩ => stuckG_all h hs (Nat.le_refl _) hn h1 h2⟩
theorem PlS_app : ∀ {p q : List N} {ls : List Lay}, PlS st ls (p ++ q) ↔ PlS st ls p ∧ PlS st (plL st ls p) q
  | [], q, ls => by simp [PlS, plL]
  | n :: p, q, ls => by
    have ih := PlS_app (p := p) (q := q) (ls := plA st ls n)
    show (agA st ls n = true ∧ PlS st (plA st ls n) (p ++ q)) ↔ (agA st ls n = true ∧ PlS st (plA st ls n) p) ∧ PlS st (plL st (plA st ls n) p) q
    rw [ih, and_assoc]
def orderG (st : N → Lay) (ls : List Lay) : Nat → List N → List N
  | 0, _ => []
  | k + 1, rest => match rest.find? (fun n => decide (CP st ls (wo rest n))) with
    | none => []
    | some n => n :: orderG st ls k (wo rest n)
theorem wo_perm {ns : List N} (hn : ns.Nodup) {n : N} (h : n ∈ ns) : (n :: wo ns n).Perm ns := by
  have h1 : n ∉ wo ns n := fun z => by
    have := (List.mem_filter.mp z).2
    simp at this
  refine (List.perm_ext_iff_of_nodup (List.nodup_cons.mpr ⟨h1, hn.filter _⟩) hn).mpr fun x => ?_
  constructor
  · intro z
    rcases List.mem_cons.mp z with rfl | z
    · exact h
    · exact (List.mem_filter.mp z).1
  · intro z
    by_cases e : x = n
    · rw [e]
      exact List.mem_cons_self ..
    · exact List.mem_cons_of_mem _ (List.mem_filter.mpr ⟨z, by simpa using e⟩)
theorem wo_len {ns : List N} (hn : ns.Nodup) {n : N} (h : n ∈ ns) : (wo ns n).length + 1 = ns.length := by
  have := (wo_perm hn h).length_eq
  simpa using this
theorem wo_mem {ns : List N} {n x : N} : x ∈ wo ns n ↔ x ∈ ns ∧ x ≠ n := by
  unfold wo
  rw [List.mem_filter]
  simp
/-- of stamps that all peel off, one may lie lowest -/
theorem low_one (h : Siz size ls) {ns : List N} (hs : ∀ n ∈ ns, (st n).length = size) (hn : ns.Nodup) (hc : CP st ls ns) (hne : ns ≠ []) : ∃ n, ns.find? (fun n => decide (CP st ls (wo ns n))) = some n := by
  obtain ⟨q, hq, hp⟩ := (cp_iff h hs hn).mp hc
  have hq0 : q ≠ [] := fun z => hne (by rw [z] at hq; exact hq.symm.eq_nil)
  obtain ⟨p, a, rfl⟩ : ∃ p a, q = p ++ [a] := ⟨q.dropLast, q.getLast hq0, (List.dropLast_concat_getLast hq0).symm⟩
  have ha : a ∈ ns := hq.mem_iff.mp (by simp)
  have hpp : p.Perm (wo ns a) := by
    have h1 : (a :: p).Perm ns := (List.perm_append_comm (l₁ := [a]) (l₂ := p)).trans hq
    exact List.Perm.cons_inv (h1.trans (wo_perm hn ha).symm)
  have hcp : CP st ls (wo ns a) := (cp_iff h (fun n hx => hs n (wo_mem.mp hx).1) (hn.filter _)).mpr ⟨p, hpp, (PlS_app.mp hp).1⟩
  cases hf : ns.find? (fun n => decide (CP st ls (wo ns n))) with
  | some n => exact ⟨n, rfl⟩
  | none =>
    have := List.find?_eq_none.mp hf a ha
    exact absurd (decide_eq_true hcp) this
theorem filt_more {ns row : List N} {e : N} : (ns.filter fun x => !decide (x ∈ row ++ [e])) = wo (ns.filter fun x => !decide (x ∈ row)) e := by
  unfold wo
  rw [List.filter_filter]
  apply List.filter_congr
  intro x _
  by_cases h1 : x ∈ row <;> by_cases h2 : x = e <;> simp [h1, h2]
theorem first_order (h : Siz size ls) {ns : List N} (hs : ∀ n ∈ ns, (st n).length = size) (hn : ns.Nodup) {V : List N → Bool} (hV : ∀ r, r.Perm ns → (V r = true ↔ PlS st ls r.reverse)) :
    ∀ (t : Nat) (row : List N), RowP ns row (ns.length - t) → t ≤ ns.length → CP st ls (ns.filter fun e => !decide (e ∈ row)) → (∀ q, q.Perm (ns.filter fun e => !decide (e ∈ row)) → PlS st ls q → PlS st (plL st ls q) row.reverse) →
      (extR ns t row).find? V = some (row ++ orderG st ls t (ns.filter fun e => !decide (e ∈ row)))
  | 0, row, hr, ht, hc, hI => by
    have hl := rest_len hn hr
    have h0 : (ns.filter fun e => !decide (e ∈ row)) = [] := List.length_eq_zero_iff.mp (by omega)
    have hp : row.Perm ns := (List.perm_ext_iff_of_nodup hr.nd hn).mpr fun x => ⟨hr.sub x, fun hx => by simpa using List.filter_eq_nil_iff.mp h0 x hx⟩
    have hv : V row = true := (hV row hp).mpr (by
      have := hI [] (by rw [h0]) trivial
      exact this)
    show [row].find? V = some (row ++ [])
    rw [List.append_nil, List.find?_cons_of_pos hv]
  | t + 1, row, hr, ht, hc, hI => by
    have hl := rest_len hn hr
    have hrn : (ns.filter fun e => !decide (e ∈ row)).Nodup := hn.filter _
    have hrs : ∀ n ∈ ns.filter (fun e => !decide (e ∈ row)), (st n).length = size := fun n hx => hs n (List.mem_filter.mp hx).1
    show ((ns.filter fun e => !decide (e ∈ row)).flatMap fun e => extR ns t (row ++ [e])).find? V = _
    rw [List.find?_flatMap]
    have each : ∀ e ∈ ns.filter (fun e => !decide (e ∈ row)), (extR ns t (row ++ [e])).find? V = if CP st ls (wo (ns.filter fun e => !decide (e ∈ row)) e) then some (row ++ [e] ++ orderG st ls t (wo (ns.filter fun e => !decide (e ∈ row)) e)) else none := fun e he => by
      obtain ⟨he1, he2⟩ := List.mem_filter.mp he
      have hre : RowP ns (row ++ [e]) (ns.length - t) := by
        have := hr.more he1 (by simpa using he2)
        rw [show ns.length - (t + 1) + 1 = ns.length - t by omega] at this
        exact this
      by_cases hce : CP st ls (wo (ns.filter fun e => !decide (e ∈ row)) e)
      · rw [if_pos hce, ← filt_more]
        refine first_order h hs hn hV t (row ++ [e]) hre (by omega) (by rw [filt_more]; exact hce) fun q hq hpq => ?_
        rw [filt_more] at hq
        have hqe : (q ++ [e]).Perm (ns.filter fun e => !decide (e ∈ row)) := (List.perm_append_comm (l₁ := q) (l₂ := [e])).trans ((hq.cons e).trans (wo_perm hrn he))
        have hag : agA st (plL st ls q) e = true := by
          cases hx : agA st (plL st ls q) e with
          | true => rfl
          | false =>
            obtain ⟨p, hp1, hp2⟩ := (cp_iff h hrs hrn).mp hc
            have hqs : ∀ n ∈ q, (st n).length = size := fun n hnq => hrs n (wo_mem.mp (hq.mem_iff.mp hnq)).1
            have := within (S := fun n => n ∈ ns.filter (fun e => !decide (e ∈ row))) h hqs (fun n hnp => hrs n (hp1.mem_iff.mp hnp)) (hp1.nodup_iff.mpr hrn) (fun n hnp => hp1.mem_iff.mp hnp) (fun n hS hnq => by
              have : n = e := Classical.byContradiction fun z => hnq (hq.mem_iff.mpr (wo_mem.mpr ⟨hS, z⟩))
              rw [this]
              exact hx) hp2 e (hp1.mem_iff.mpr he)
            exact absurd (wo_mem.mp (hq.mem_iff.mp this)).2 (by simp)
        have happ : PlS st ls (q ++ [e]) := PlS_app.mpr ⟨hpq, hag, trivial⟩
        have := hI _ hqe happ
        rw [List.reverse_append]
        refine ⟨hag, ?_⟩
        have e2 : plL st ls (q ++ [e]) = plA st (plL st ls q) e := by
          unfold plL
          rw [List.foldl_append]
          rfl
        rw [e2] at this
        exact this
      · rw [if_neg hce, List.find?_eq_none]
        intro r hrr hv
        apply hce
        have sub : ∀ (t : Nat) (row r : List N), r ∈ extR ns t row → ∃ u, r = row ++ u := by
          intro t
          induction t with
          | zero => intro row r hr; exact ⟨[], by rw [List.mem_singleton.mp hr, List.append_nil]⟩
          | succ t ih =>
            intro row r hr
            obtain ⟨a, _, h2⟩ := List.mem_flatMap.mp hr
            obtain ⟨u, rfl⟩ := ih _ r h2
            exact ⟨[a] ++ u, by rw [List.append_assoc]⟩
        have okr : ∀ (t : Nat) (row r : List N) (m : Nat), RowP ns row m → r ∈ extR ns t row → RowP ns r (m + t) := by
          intro t
          induction t with
          | zero => intro row r m h1 h2; rw [List.mem_singleton.mp h2]; exact h1
          | succ t ih =>
            intro row r m h1 h2
            obtain ⟨a, ha, h3⟩ := List.mem_flatMap.mp h2
            obtain ⟨a1, a2⟩ := List.mem_filter.mp ha
            have := ih _ r (m + 1) (h1.more a1 (by simpa using a2)) h3
            rw [show m + 1 + t = m + (t + 1) by omega] at this
            exact this
        obtain ⟨u, rfl⟩ := sub t _ r hrr
        have hR := okr t _ _ _ hre hrr
        have hp : ((row ++ [e]) ++ u).Perm ns := by
          have hl2 := rest_len hn hR
          have h0 : (ns.filter fun x => !decide (x ∈ (row ++ [e]) ++ u)) = [] := List.length_eq_zero_iff.mp (by omega)
          refine (List.perm_ext_iff_of_nodup hR.nd hn).mpr fun x => ⟨hR.sub x, fun hx => Classical.byContradiction fun hh => ?_⟩
          have := List.filter_eq_nil_iff.mp h0 x hx
          exact this (by rw [decide_eq_false hh]; rfl)
        have hps := (hV _ hp).mp hv
        rw [List.reverse_append] at hps
        have h1 := (PlS_app.mp hps).1
        refine (cp_iff h (fun n hx => hrs n (wo_mem.mp hx).1) (hrn.filter _)).mpr ⟨u.reverse, ?_, h1⟩
        have hun : u.Nodup := (List.nodup_append.mp hR.nd).2.1
        refine (List.reverse_perm u).trans ((List.perm_ext_iff_of_nodup hun (hrn.filter _)).mpr fun x => ?_)
        show x ∈ u ↔ x ∈ wo (ns.filter fun e => !decide (e ∈ row)) e
        rw [← filt_more, List.mem_filter]
        constructor
        · intro hx
          refine ⟨hR.sub x (List.mem_append_right _ hx), ?_⟩
          have := (List.nodup_append.mp hR.nd).2.2
          simp only [Bool.not_eq_true', decide_eq_false_iff_not]
          exact fun z => this x z x hx rfl
        · rintro ⟨hx1, hx2⟩
          have hx3 := hp.mem_iff.mpr hx1
          rcases List.mem_append.mp hx3 with z | z
          · simp [z] at hx2
          · exact z
    have hne : (ns.filter fun e => !decide (e ∈ row)) ≠ [] := fun z => by
      rw [z] at hl
      simp at hl
      omega
    obtain ⟨a, hfa⟩ := low_one h hrs hrn hc hne
    generalize (ns.filter fun e => !decide (e ∈ row)) = rest at each hfa
    show rest.findSome? (fun e => (extR ns t (row ++ [e])).find? V) = some (row ++ (match rest.find? (fun n => decide (CP st ls (wo rest n))) with | none => [] | some n => n :: orderG st ls t (wo rest n)))
    have key : ∀ l : List N, (∀ e ∈ l, e ∈ rest) → l.findSome? (fun e => (extR ns t (row ++ [e])).find? V) = (l.find? (fun n => decide (CP st ls (wo rest n)))).map fun n => row ++ [n] ++ orderG st ls t (wo rest n) := by
      intro l
      induction l with
      | nil => intro _; rfl
      | cons e r ih =>
        intro hl2
        rw [List.findSome?_cons, List.find?_cons, each e (hl2 e (List.mem_cons_self ..))]
        by_cases hce : CP st ls (wo rest e)
        · rw [if_pos hce, decide_eq_true hce]
          rfl
        · rw [if_neg hce, decide_eq_false hce]
          exact ih fun x hx => hl2 x (List.mem_cons_of_mem _ hx)
    rw [key rest fun e he => he, hfa]
    simp
end
end
end Mi

set_option maxHeartbeats 2000000
namespace Mi
open PySem PySem.Spec PyProof.Rows L2 Evl
/-! ### t + u, t may be empty -/
theorem cat_tup0 {prog : Program} {w : World} {A : Around} {E : Value → Shared → Prop} {s : Shared} {t b : Addr} {ws : List Value} {Q : Value → Shared → Prop} (ht : IsTup s.heap t ([] : List Value).toArray) (hb : IsTup s.heap b ws.toArray) (h1 : Q (.ref b) s) : wpAny (model prog w) A (binaryOp .Add (.ref t) (.ref b)) Q E s := by
  obtain ⟨⟨cls, dd, data, sl⟩, ho, hc, n, hd⟩ := id ht
  obtain ⟨⟨cls2, dd2, data2, sl2⟩, ho2, hc2, n2, hd2⟩ := id hb
  simp only at hc hd hc2 hd2
  subst hc hd hc2 hd2
  exact concat_meets ⟨_, ho, rfl⟩ ⟨_, ho2, rfl⟩ noFill_tuple_add seq_tuple_add PySem.F.slot_tuple_add PySem.F.entry_tuple_add (PySem.F.args_tuple_add_2 _ _)
      (tuple_addW0 t b ([] : List Value).toArray ws.toArray n n2 dd dd2 sl sl2 (by simp)) ⟨ho, ho2, h1⟩
def rCatU (K : PySem.W.Frag) : R2 := fun x y H Q => ∃ a b xs ys, x = .ref a ∧ y = .ref b ∧ SqT K H a xs ∧ SqT K H b ys ∧ xs.length + ys.length ≤ sizeLine ∧ (xs = [] → Q (.ref b) H) ∧ (xs ≠ [] → ys = [] → Q (.ref a) H) ∧ (xs ≠ [] → ys ≠ [] → ∀ p, H p = none → Q (.ref p) (upd H p (.tup (xs ++ ys))))
theorem op_catU {X : Cx} : OpR X (binaryOp .Add) (rCatU X.K) := by
  intro pins s σ H x y v u Q I rx ry h
  obtain ⟨a, b, xs, ys, rfl, rfl, ha, hb, hz, q0, q1, q2⟩ := h
  by_cases hx : xs = []
  · cases rx
    cases ry
    obtain ⟨its, r1, p1, _⟩ := I.tuple ha
    obtain ⟨its2, r2, p2, _⟩ := I.tuple hb
    have e : its = [] := r1.nil_iff.mpr hx
    subst e
    exact cat_tup0 p1 p2 ⟨.ref b, H, I, rfl, q0 hx⟩
  · exact op_catT pins s σ H (.ref a) (.ref b) v u Q I rx ry ⟨a, b, xs, ys, rfl, rfl, ha, hb, hx, hz, q1 hx, q2 hx⟩
theorem op_catU_k {X : Cx} {K : PySem.W.Frag} (h : X.K = K := by rfl) : OpR X (binaryOp .Add) (rCatU K) := h ▸ op_catU
section
variable {K : PySem.W.Frag} {H : Hp}
theorem ro_catU {xs ys : List V} (hz : xs.length + ys.length ≤ 100000) : Ro K (rCatU K) (.u xs) (.u ys) (.u (xs ++ ys)) := by
  rintro _ _ H1 ⟨p, rfl, hp⟩ ⟨p', rfl, hp'⟩ Q q
  refine ⟨p, p', xs, ys, rfl, rfl, hp, hp', sz_of hz, fun e => ?_, fun _ e => ?_, fun _ _ l hl => ?_⟩
  · subst e
    exact q _ H1 (Ex.refl _) ⟨p', rfl, hp'⟩
  · subst e
    rw [List.append_nil] at q
    exact q _ H1 (Ex.refl _) ⟨p, rfl, hp⟩
  · exact q _ _ (Ex.new hl) ⟨l, rfl, st_of upd_same⟩
end
end Mi

set_option maxHeartbeats 4000000
namespace Mi
open PySem PySem.Spec PyProof.Rows L2 Evl
local macro_rules | `(tactic| walk_at "side") => `(tactic| (first | assumption | omega | exact rfl | decide | (simp only [List.length_cons, List.length_nil, List.length_map, List.length_append, List.length_replicate] <;> omega)))
local macro_rules | `(tactic| walk_at "ro") => `(tactic| (first
  | with_reducible exact ro_I0
  | with_reducible exact ro_1018
  | with_reducible exact ro_neC
  | with_reducible exact ro_eqC
  | with_reducible exact ro_neI
  | with_reducible exact ro_eqI
  | with_reducible exact ro_neB
  | with_reducible exact ro_eqB
  | ((with_reducible apply ro_mod); (walk_at "side"))
  | ((with_reducible apply ro_div) <;> (walk_at "side"))
  | ((with_reducible apply ro_divW) <;> (walk_at "side"))
  | with_reducible exact ro_1012
  | with_reducible exact ro_1015
  | ((with_reducible apply ro_mulL) <;> (walk_at "side"))
  | ((with_reducible apply ro_mulR) <;> (walk_at "side"))
  | ((with_reducible apply ro_addC); (walk_at "side"))
  | ((with_reducible apply ro_ixC) <;> (walk_at "side"))
  | ((with_reducible apply ro_ixI) <;> (walk_at "side"))
  | ((with_reducible apply ro_ixIN) <;> (walk_at "side"))
  | ((with_reducible apply ro_ixT2) <;> (walk_at "side"))
  | ((with_reducible apply ro_ixG) <;> (walk_at "side"))
  | ((with_reducible apply ro_eq); exact rfl)
  | ((with_reducible apply ro_ne); exact rfl)
  | with_reducible exact ro_isN
  | with_reducible exact ro_notN
  | with_reducible exact ro_eqL
  | with_reducible exact ro_neL
  | with_reducible exact ro_eqU
  | ((with_reducible apply ro_cat); (walk_at "side"))
  | with_reducible exact ro_inLi
  | with_reducible exact ro_inNi
  | with_reducible exact ro_inUi
  | ((with_reducible apply ro_inL) <;> (walk_at "side"))
  | ((with_reducible apply ro_inN) <;> (walk_at "side"))
  | ((with_reducible apply ro_inU) <;> (walk_at "side"))))
local macro_rules | `(tactic| walk_at "rc") => `(tactic| (first
  | with_reducible exact rc_int
  | with_reducible exact rc_intB
  | with_reducible exact rc_max2
  | ((with_reducible apply rc_lenC); (walk_at "side"))
  | with_reducible exact rc_lenI
  | with_reducible exact rc_lenT
  | with_reducible exact rc_lenIN
  | with_reducible exact rc_lenTN
  | with_reducible exact rc_lenL
  | with_reducible exact rc_lenN
  | with_reducible exact rc_lenU
  | with_reducible exact rc_listL
  | with_reducible exact rc_listU
  | with_reducible exact rc_tupL
  | with_reducible exact rc_tupN
  | ((with_reducible apply rc_isi_int); decide +kernel)
  | ((with_reducible apply rc_isi_str); decide +kernel)
  | ((with_reducible apply rc_isi_bl); decide +kernel)
  | ((with_reducible apply rc_isi_non); decide +kernel)
  | ((with_reducible apply rc_isi_u); decide +kernel)
  | ((with_reducible apply rc_isi_l); decide +kernel)))
local macro_rules | `(tactic| walk_at "er") => `(tactic| (first
  | ((with_reducible apply er_var); (exact rfl); assumption)
  | ((with_reducible apply er_v); exact rfl)
  | with_reducible exact er_c
  | ((with_reducible apply er_pick); (walk_at "er"); (walk_at "er"); (walk_at "er"))
  | ((with_reducible apply er_op); (walk_at "er"); (walk_at "er"); (walk_at "ro"))
  | ((with_reducible apply er_cb); (walk_at "era"); (walk_at "rc"))
  | ((with_reducible apply er_lst'); (walk_at "era"); (exact rfl); (walk_at "side"))
  | ((with_reducible apply er_tup'); (walk_at "era"); (exact rfl); (walk_at "side"))
  | ((with_reducible apply er_notV); (walk_at "er"))
  | ((with_reducible apply er_andV); (walk_at "er"); (intro _; (walk_at "er")))
  | ((with_reducible apply er_orV); (walk_at "er"); (intro _; (walk_at "er")))
  | ((with_reducible apply er_ite); (walk_at "et"); (intro _; (walk_at "er")); (intro _; (walk_at "er")))))
local macro_rules | `(tactic| walk_at "era") => `(tactic| (first
  | with_reducible exact era_nil
  | ((with_reducible apply era_cons); (walk_at "er"); (walk_at "era"))))
local macro_rules | `(tactic| walk_at "et") => `(tactic| (first
  | ((with_reducible apply et_an); (walk_at "et"); (intro _; (walk_at "et")))
  | ((with_reducible apply et_orr); (walk_at "et"); (intro _; (walk_at "et")))
  | ((with_reducible apply et_nt); (walk_at "et"))
  | ((with_reducible apply et1); (walk_at "er"))
  | ((with_reducible apply et2); (walk_at "er"))))

def topS (i : Nat) : Stmt := PySem.Challenge.pw_stampsheets_k35_common_order_whole.main.body.getD i (.Pass ⟨0, 0, 0, 0⟩)
def letters : List Nat := [97, 98, 99, 100, 101, 102, 103, 104, 105, 106, 107, 108, 109, 110, 111, 112, 113, 114, 115, 116, 117, 118, 119, 120, 121, 122]
def alls : List Nat := 46 :: letters
def signs : List Nat := 45 :: alls
def digits : List Nat := [48, 49, 50, 51, 52, 53, 54, 55, 56, 57]
/-- what the top leaves of the names that the defs read -/
structure Txt (K : PySem.W.Frag) (mg : Str → Option Value) : Prop where
  g_DASH : ∃ t, mg "DASH" = some (.str (S [45]) t)
  g_LETTERS : ∃ t, mg "LETTERS" = some (.str (S letters) t)
  g_MARKS : ∃ t, mg "MARKS" = some (.str (S alls) t)
  g_LONGEST : ∃ t, mg "LONGEST" = some (.int 30 t)
  g_DIGITS : ∃ t, mg "DIGITS" = some (.str (S digits) t)
  g_LONGEST_NAME : ∃ t, mg "LONGEST_NAME" = some (.int 8 t)
  b_len : mg "len" = none
  b_int : mg "int" = none
  b_bool : mg "bool" = none
  b_str : mg "str" = none
  b_tuple : mg "tuple" = none
  b_list : mg "list" = none
  b_zip : mg "zip" = none
  b_enumerate : mg "enumerate" = none
  b_range : mg "range" = none
  b_max : mg "max" = none
  b_min : mg "min" = none
  b_sum : mg "sum" = none
  b_all : mg "all" = none
  b_any : mg "any" = none
  b_isinstance : mg "isinstance" = none
  b_iter : mg "iter" = none
section
variable {P : Program} {w : World} {K : PySem.W.Frag} {mg : Str → Option Value} {base : Heap}

def okP (p : Nat × Nat) : Bool := p.1 == p.2 || (p.1 == 45 || p.2 == 45)
def agreeM (a b : List Nat) : Bool := (a.zip b).all okP
theorem zip_at {a b : List Nat} {i c d : Nat} (h1 : a[i]? = some c) (h2 : b[i]? = some d) : (a.zip b)[i]? = some (c, d) := List.getElem?_zip_eq_some (z := (c, d)) |>.mpr ⟨h1, h2⟩
theorem all_next {α : Type} {l : List α} {p : α → Bool} {i : Nat} {x : α} (h : l[i]? = some x) : (l.take (i + 1)).all p = ((l.take i).all p && p x) := by
  rw [List.take_add_one, h, List.all_append]
  simp
theorem all_end {α : Type} {l : List α} {p : α → Bool} : (l.take l.length).all p = l.all p := by rw [List.take_length]
theorem all_not {α : Type} {l : List α} {p : α → Bool} {i : Nat} {x : α} (h : l[i]? = some x) (hp : p x = false) : l.all p = false := by
  rw [List.all_eq_false]
  exact ⟨x, List.mem_of_getElem? h, by rw [hp]; exact Bool.false_ne_true⟩
abbrev s__law_cell : Stmt := topS 39
theorem sc__law_cell : FnScope ["script", "k", "seed", "cell"] ["script", "k"] (defScope s__law_cell) := ⟨rfl, rfl, rfl, by decide +kernel, rfl, by decide +kernel, by decide +kernel⟩

def seedM (ns : List Int) : Int := ns.foldl (fun s c => (s * 31 + c % 1000003) % 1000003) 17
theorem seedM_next {ns : List Int} {i : Nat} {x : Int} (h : ns[i]? = some x) : seedM (ns.take (i + 1)) = (seedM (ns.take i) * 31 + x % 1000003) % 1000003 := by
  unfold seedM
  rw [List.take_add_one, h, List.foldl_append]
  rfl
theorem seedM_bound (ns : List Int) : 0 ≤ seedM ns ∧ seedM ns < 1000003 := by
  unfold seedM
  suffices h : ∀ (l : List Int) (s : Int), 0 ≤ s ∧ s < 1000003 → 0 ≤ l.foldl (fun s c => (s * 31 + c % 1000003) % 1000003) s ∧ l.foldl (fun s c => (s * 31 + c % 1000003) % 1000003) s < 1000003 from h ns 17 (by omega)
  intro l
  induction l with
  | nil => intro s h; exact h
  | cons c r ih => intro s h; exact ih ((s * 31 + c % 1000003) % 1000003) (by omega)
def cellM (ns : List Int) (k : Nat) : Int := if k < ns.length then ns.getD k 0 else ((seedM ns + 7) * ((k : Int) + 3) * 69621) % 2147483647
abbrev sp__law_cell (K : PySem.W.Frag) : Sp := spR K (fun a : List Int × Nat => a.1.length ≤ 63 ∧ a.2 ≤ 1000) (fun a => [.l (vis a.1), .i (a.2 : Int)]) fun a => .i (cellM a.1 a.2)
theorem has__law_cell (T : Txt K mg) (h : At K mg "_law_cell" s__law_cell ["script", "k"]) : Has P w K mg base 1 "_law_cell" ["script", "k"] (sp__law_cell K) := by
  refine h.hasR sc__law_cell (fun _ => rfl) fun f cdv A outer s H a vs Q E hr hp hv hk => ?_
  obtain ⟨ns, k⟩ := a
  obtain ⟨hl, hk1⟩ := hp
  replace hl : ns.length ≤ 63 := hl
  replace hk1 : k ≤ 1000 := hk1
  rcases hv with _ | ⟨hs, _ | ⟨rfl, _ | _⟩⟩
  obtain ⟨p, rfl, hS⟩ := hs
  have hs : Is K H (.l (vis ns)) (.ref p) := ⟨p, rfl, hS⟩
  have sc := sc__law_cell
  refine ⟨_, (pss_cons (ps_if (pt_cmpR op_lt (pv 1) (pe_callB (cr_len_k (K := K)) (by rfl) T.b_len (by decide +kernel) (pa_cons (pv 0) pa_nil)) (nomark _)) (pss_one (ps_ret (pe_ix (ix_list_k (K := K)) (pv 0) (pv 1) (fun _ _ => rfl)))) pss_nil)
    (pss_cons (ps_set (i := 2) sc.nd rfl (Or.inl rfl) pe_int)
    (pss_cons (ps_for PassesOwn.never rfl (pi_list_k (K := K) (pv 0)) (pg_name (i := 3) sc.nd rfl (Or.inl rfl)) (pss_one (ps_set (i := 2) sc.nd rfl (Or.inl rfl) (pe_op op_mod (pe_callTy cr_int (by rfl) T.b_int (by decide +kernel) (pa_cons (pe_op op_add (pe_op op_mul (pv 2) pe_int) (pe_op op_mod (pe_callTy cr_int (by rfl) T.b_int (by decide +kernel) (pa_cons (pv 3) pa_nil)) pe_int)) pa_nil)) pe_int))))
    (pss_one (ps_ret (pe_op op_mod (pe_callTy cr_int (by rfl) T.b_int (by decide +kernel) (pa_cons (pe_op op_mul (pe_op op_mul (pe_op op_add (pv 2) pe_int) (pe_op op_add (pv 1) pe_int)) pe_int) pa_nil)) pe_int)))))), ?_⟩
  refine' a_when (K := K) ?g1 ?g2 ?g3
  case g1 => walk_at "et"
  case g2 =>
    intro hb H1 e1
    have hb' : k < ns.length := by simpa using hb
    replace hs := hs.mono e1
    refine' a_rete (K := K) ?g4 ?g5 e1 hk
    case g4 => walk_at "er"
    show Dd.i _ = Dd.i (if k < ns.length then _ else _)
    rw [if_pos hb']
    rfl
  case g3 =>
    intro hb H1 e1
    have hb' : ¬ k < ns.length := by simpa using hb
    refine' a_setv (K := K) ?g6 ?g7
    case g6 => walk_at "er"
    intro H2 e2
    refine b_forA (K := K) (a := p) (xs := vis ns) (er_v rfl) (ex_l (e1.trans e2) hS) (fun i σ' H' => ∃ y, σ' = [some (.ref p), some (.int (k : Int)), some (.int (seedM (ns.take i))), y] ∧ Ex H H') (fun H3 e3 => ⟨none, rfl, (e1.trans e2).trans e3⟩) (fun i σ' H' _ ⟨_, _, e⟩ => ex_l e hS) ?_ ?_
    · rintro i x σ' H' hx ⟨y, rfl, e⟩
      obtain ⟨n, hn, rfl⟩ : ∃ n, ns[i]? = some n ∧ V.int n = x := by
        rw [List.getElem?_map] at hx
        cases q : ns[i]? with
        | none => rw [q] at hx; cases hx
        | some n => rw [q] at hx; exact ⟨n, rfl, Option.some.inj hx⟩
      have hb := seedM_bound (ns.take i)
      refine' a_setv1 (K := K) ?g8 ?g9
      case g8 => walk_at "er"
      intro H4 e4
      refine ⟨some (.int n), ?_, e.trans e4⟩
      rw [seedM_next hn]
      rfl
    · rintro σ' H' ⟨y, rfl, e⟩
      rw [List.length_map, List.take_length]
      have hb := seedM_bound ns
      refine' a_rete (K := K) ?g10 ?g11 e hk
      case g10 => walk_at "er"
      show Dd.i _ = Dd.i (if k < ns.length then _ else _)
      rw [if_neg hb']
def rsM (x : Int) (sizes : List Int) (j : Nat) : Int := (sizes.take j).foldl (fun a b => a / b) x
theorem rsM_next {x b : Int} {sizes : List Int} {j : Nat} (h : sizes[j]? = some b) : rsM x sizes (j + 1) = rsM x sizes j / b := by
  unfold rsM
  rw [List.take_add_one, h, List.foldl_append]
  rfl
def sdM (s0 : Int) : Nat → Int
  | 0 => s0
  | i + 1 => (sdM s0 i * 48271 + 974711 * (i : Int) + 12345) % 2147483647
def twM (s : Int) : Int := (s * (s / 65537 + 3)) % 2147483629
def draw1 (x : Int) (sizes : List Int) : List Int := sizes.zipIdx.map fun p => rsM x sizes p.2 % p.1
def draw2 (s0 : Int) (sizes : List Int) : List Int := sizes.zipIdx.map fun p => twM (sdM s0 (p.2 + 1)) / 19 % p.1
end
end Mi

set_option maxHeartbeats 4000000
namespace Mi
open PySem PySem.Spec PyProof.Rows L2 Evl
local macro_rules | `(tactic| walk_at "side") => `(tactic| (first | assumption | omega | exact rfl | decide | (simp only [List.length_cons, List.length_nil, List.length_map, List.length_append, List.length_replicate] <;> omega)))
local macro_rules | `(tactic| walk_at "ro") => `(tactic| (first
  | with_reducible exact ro_I0
  | with_reducible exact ro_1018
  | with_reducible exact ro_neC
  | with_reducible exact ro_eqC
  | with_reducible exact ro_neI
  | with_reducible exact ro_eqI
  | with_reducible exact ro_neB
  | with_reducible exact ro_eqB
  | ((with_reducible apply ro_mod); (walk_at "side"))
  | ((with_reducible apply ro_div) <;> (walk_at "side"))
  | ((with_reducible apply ro_divW) <;> (walk_at "side"))
  | with_reducible exact ro_1012
  | with_reducible exact ro_1015
  | ((with_reducible apply ro_mulL) <;> (walk_at "side"))
  | ((with_reducible apply ro_mulR) <;> (walk_at "side"))
  | ((with_reducible apply ro_addC); (walk_at "side"))
  | ((with_reducible apply ro_ixC) <;> (walk_at "side"))
  | ((with_reducible apply ro_ixI) <;> (walk_at "side"))
  | ((with_reducible apply ro_ixIN) <;> (walk_at "side"))
  | ((with_reducible apply ro_ixT2) <;> (walk_at "side"))
  | ((with_reducible apply ro_ixG) <;> (walk_at "side"))
  | ((with_reducible apply ro_eq); exact rfl)
  | ((with_reducible apply ro_ne); exact rfl)
  | with_reducible exact ro_isN
  | with_reducible exact ro_notN
  | with_reducible exact ro_eqL
  | with_reducible exact ro_neL
  | with_reducible exact ro_eqU
  | ((with_reducible apply ro_cat); (walk_at "side"))
  | with_reducible exact ro_inLi
  | with_reducible exact ro_inNi
  | with_reducible exact ro_inUi
  | ((with_reducible apply ro_inL) <;> (walk_at "side"))
  | ((with_reducible apply ro_inN) <;> (walk_at "side"))
  | ((with_reducible apply ro_inU) <;> (walk_at "side"))))
local macro_rules | `(tactic| walk_at "rc") => `(tactic| (first
  | with_reducible exact rc_int
  | with_reducible exact rc_intB
  | with_reducible exact rc_max2
  | ((with_reducible apply rc_lenC); (walk_at "side"))
  | with_reducible exact rc_lenI
  | with_reducible exact rc_lenT
  | with_reducible exact rc_lenIN
  | with_reducible exact rc_lenTN
  | with_reducible exact rc_lenL
  | with_reducible exact rc_lenN
  | with_reducible exact rc_lenU
  | with_reducible exact rc_listL
  | with_reducible exact rc_listU
  | with_reducible exact rc_tupL
  | with_reducible exact rc_tupN
  | ((with_reducible apply rc_isi_int); decide +kernel)
  | ((with_reducible apply rc_isi_str); decide +kernel)
  | ((with_reducible apply rc_isi_bl); decide +kernel)
  | ((with_reducible apply rc_isi_non); decide +kernel)
  | ((with_reducible apply rc_isi_u); decide +kernel)
  | ((with_reducible apply rc_isi_l); decide +kernel)))
local macro_rules | `(tactic| walk_at "er") => `(tactic| (first
  | ((with_reducible apply er_var); (exact rfl); assumption)
  | ((with_reducible apply er_v); exact rfl)
  | with_reducible exact er_c
  | ((with_reducible apply er_pick); (walk_at "er"); (walk_at "er"); (walk_at "er"))
  | ((with_reducible apply er_op); (walk_at "er"); (walk_at "er"); (walk_at "ro"))
  | ((with_reducible apply er_cb); (walk_at "era"); (walk_at "rc"))
  | ((with_reducible apply er_lst'); (walk_at "era"); (exact rfl); (walk_at "side"))
  | ((with_reducible apply er_tup'); (walk_at "era"); (exact rfl); (walk_at "side"))
  | ((with_reducible apply er_notV); (walk_at "er"))
  | ((with_reducible apply er_andV); (walk_at "er"); (intro _; (walk_at "er")))
  | ((with_reducible apply er_orV); (walk_at "er"); (intro _; (walk_at "er")))
  | ((with_reducible apply er_ite); (walk_at "et"); (intro _; (walk_at "er")); (intro _; (walk_at "er")))))
local macro_rules | `(tactic| walk_at "era") => `(tactic| (first
  | with_reducible exact era_nil
  | ((with_reducible apply era_cons); (walk_at "er"); (walk_at "era"))))
local macro_rules | `(tactic| walk_at "et") => `(tactic| (first
  | ((with_reducible apply et_an); (walk_at "et"); (intro _; (walk_at "et")))
  | ((with_reducible apply et_orr); (walk_at "et"); (intro _; (walk_at "et")))
  | ((with_reducible apply et_nt); (walk_at "et"))
  | ((with_reducible apply et1); (walk_at "er"))
  | ((with_reducible apply et2); (walk_at "er"))))

section
variable {P : Program} {w : World} {K : PySem.W.Frag} {mg : Str → Option Value} {base : Heap}

abbrev s__law_digits : Stmt := topS 40
theorem sc__law_digits : FnScope ["cell", "sizes", "row", "rest", "size", "seed", "k", "twice"] ["cell", "sizes"] (defScope s__law_digits) := ⟨rfl, rfl, rfl, by decide +kernel, rfl, by decide +kernel, by decide +kernel⟩

def digM (x : Int) (sizes : List Int) : List Int := if 1000000000000000000 ≤ x then draw1 (x - 1000000000000000000) sizes else draw2 (x % 2147483629) sizes
theorem digM_len (x : Int) (sizes : List Int) : (digM x sizes).length = sizes.length := by
  unfold digM draw1 draw2
  split <;> simp
theorem digM_bd {x : Int} {sizes : List Int} (hs : ∀ s ∈ sizes, 0 < s) {i : Nat} (h : i < sizes.length) : 0 ≤ (digM x sizes).getD i 0 ∧ (digM x sizes).getD i 0 < sizes.getD i 0 := by
  have hb : 0 < sizes[i] := hs _ (List.getElem_mem h)
  have e : sizes[i]? = some sizes[i] := List.getElem?_eq_getElem h
  rw [List.getD_eq_getElem?_getD, List.getD_eq_getElem?_getD, e]
  unfold digM
  split
  · unfold draw1
    rw [List.getElem?_map, zipIdx_at e]
    exact ⟨Int.emod_nonneg _ (by omega), Int.emod_lt_of_pos _ hb⟩
  · unfold draw2
    rw [List.getElem?_map, zipIdx_at e]
    exact ⟨Int.emod_nonneg _ (by omega), Int.emod_lt_of_pos _ hb⟩
abbrev sp__law_digits (K : PySem.W.Frag) : Sp := spR K (fun a : Int × List Int => a.2.length ≤ 1000 ∧ ∀ s ∈ a.2, 0 < s ∧ s < 1000000) (fun a => [.i a.1, .l (vis a.2)]) fun a => .n (vis (digM a.1 a.2))
theorem has__law_digits (T : Txt K mg) (h : At K mg "_law_digits" s__law_digits ["cell", "sizes"]) : Has P w K mg base 1 "_law_digits" ["cell", "sizes"] (sp__law_digits K) := by
  refine h.hasR sc__law_digits (fun _ => rfl) fun f cdv A outer s H a vs Q E hr hp hv hk => ?_
  obtain ⟨x, sizes⟩ := a
  obtain ⟨hz, hpos⟩ := hp
  replace hz : sizes.length ≤ 1000 := hz
  replace hpos : ∀ s ∈ sizes, 0 < s ∧ s < 1000000 := hpos
  rcases hv with _ | ⟨rfl, _ | ⟨⟨pz, rfl, hZ⟩, _ | _⟩⟩
  have hzz : Is K H (.l (vis sizes)) (.ref pz) := ⟨pz, rfl, hZ⟩
  have sc := sc__law_digits
  refine ⟨_, (pss_cons (ps_set (i := 2) sc.nd rfl (Or.inl rfl) (pe_lst pa_nil))
    (pss_cons (ps_set (i := 3) sc.nd rfl (Or.inl rfl) (pe_callTy cr_int (by rfl) T.b_int (by decide +kernel) (pa_cons (pv 0) pa_nil)))
    (pss_cons (ps_if (pt_cmpR op_ge (pv 3) (pe_op op_pow pe_int pe_int) (nomark _)) (pss_cons (ps_set (i := 3) sc.nd rfl (Or.inl rfl) (pe_op op_sub (pv 3) (pe_op op_pow pe_int pe_int)))
    (pss_cons (ps_for PassesOwn.never rfl (pi_list_k (K := K) (pv 1)) (pg_name (i := 4) sc.nd rfl (Or.inl rfl)) (pss_cons (ps_expr (pe_bm_k (K := K) PySem.F.plainAttrs_list PySem.F.slot_list_append PySem.F.type_list_append mt_append (pv 2) (pa_cons (pe_op op_mod (pe_callTy cr_int (by rfl) T.b_int (by decide +kernel) (pa_cons (pv 3) pa_nil)) (pv 4)) pa_nil)))
    (pss_one (ps_set (i := 3) sc.nd rfl (Or.inl rfl) (pe_op op_fdiv (pe_callTy cr_int (by rfl) T.b_int (by decide +kernel) (pa_cons (pv 3) pa_nil)) (pv 4))))))
    (pss_one (ps_ret (pv 2))))) pss_nil)
    (pss_cons (ps_set (i := 5) sc.nd rfl (Or.inl rfl) (pe_op op_mod (pe_callTy cr_int (by rfl) T.b_int (by decide +kernel) (pa_cons (pv 3) pa_nil)) pe_int))
    (pss_cons (ps_for PassesOwn.never rfl (pi_range1 (by rfl) T.b_range (pa_cons (pe_callB (cr_len_k (K := K)) (by rfl) T.b_len (by decide +kernel) (pa_cons (pv 1) pa_nil)) pa_nil)) (pg_name (i := 6) sc.nd rfl (Or.inl rfl)) (pss_cons (ps_set (i := 5) sc.nd rfl (Or.inl rfl) (pe_op op_mod (pe_callTy cr_int (by rfl) T.b_int (by decide +kernel) (pa_cons (pe_op op_add (pe_op op_add (pe_op op_mul (pv 5) pe_int) (pe_op op_mul pe_int (pv 6))) pe_int) pa_nil)) pe_int))
    (pss_cons (ps_set (i := 7) sc.nd rfl (Or.inl rfl) (pe_op op_mod (pe_callTy cr_int (by rfl) T.b_int (by decide +kernel) (pa_cons (pe_op op_mul (pv 5) (pe_op op_add (pe_op op_fdiv (pv 5) pe_int) pe_int)) pa_nil)) pe_int))
    (pss_one (ps_expr (pe_bm_k (K := K) PySem.F.plainAttrs_list PySem.F.slot_list_append PySem.F.type_list_append mt_append (pv 2) (pa_cons (pe_op op_mod (pe_op op_fdiv (pv 7) pe_int) (pe_ix (ix_list_k (K := K)) (pv 1) (pv 6) (fun _ _ => rfl))) pa_nil)))))))
    (pss_one (ps_ret (pv 2)))))))), ?_⟩
  refine a_new fun o H1 ho e1 h1 => ?_
  refine' a_setv (K := K) (x := .int x) ?g1 ?g2
  case g1 => walk_at "er"
  intro H2 e2
  have h2 := e2 o _ h1
  refine' a_when (K := K) ?g3 ?g4 ?g5
  case g3 => walk_at "et"
  case g4 =>
    intro hb H3 e3
    have hb' : 1000000000000000000 ≤ x := by simpa using hb
    refine' a_setv (K := K) ?g6 ?g7
    case g6 => walk_at "er"
    intro H4 e4
    have h4 := e4 o _ (e3 o _ h2)
    have E4 : Ex H H4 := ((e1.trans e2).trans e3).trans e4
    refine b_forA (K := K) (a := pz) (xs := vis sizes) (er_v rfl) (ex_l E4 hZ) (fun i σ' H' => ∃ y, σ' = [some (.int x), some (.ref pz), some (.ref o), some (.int (rsM (x - 1000000000000000000) sizes i)), y, none, none, none] ∧ Ex H H' ∧ H' o = some (.lst (vis ((sizes.zipIdx.take i).map fun p => rsM (x - 1000000000000000000) sizes p.2 % p.1)))) (fun H5 e5 => ⟨none, rfl, E4.trans e5, e5 o _ h4⟩) (fun i σ' H' _ ⟨_, _, e, _⟩ => ex_l e hZ) ?_ ?_
    · rintro i y0 σ' H' hx ⟨y, rfl, e, hO⟩
      obtain ⟨n, hn, rfl⟩ := vis_at hx
      have hn2 := hpos n (List.mem_of_getElem? hn)
      have hn3 : 0 < n := hn2.1
      have hi : i < sizes.length := (List.getElem?_eq_some_iff.mp hn).1
      refine' b_app (K := K) hO (er_v rfl) ?g8 (by rw [List.length_map, List.length_map, List.length_take]; omega) ?g9
      case g8 => walk_at "er"
      intro H5 e5
      have E5 : Ex H (upd H5 o (.lst (vis ((sizes.zipIdx.take i).map fun p => rsM (x - 1000000000000000000) sizes p.2 % p.1) ++ [.int (rsM (x - 1000000000000000000) sizes i % n)]))) := Ex.mut (e.trans e5) ho
      refine' a_setv1 (K := K) ?g10 ?g11
      case g10 => walk_at "er"
      intro H6 e6
      refine ⟨some (.int n), ?_, E5.trans e6, ?_⟩
      · rw [rsM_next hn]
        rfl
      · rw [e6 o _ upd_same, map_take_next (zipIdx_at hn), vis_app]
    · rintro σ' H' ⟨y, rfl, e, hO⟩
      refine a_rete (K := K) (er_var (K := K) (d := .n (vis (digM x sizes))) rfl ⟨o, rfl, ?_⟩) rfl e hk
      rw [hO, List.length_map, List.take_of_length_le (by rw [List.length_zipIdx]; exact Nat.le_refl _)]
      unfold digM
      rw [if_pos hb']
      rfl
  case g5 =>
    intro hb H3 e3
    have hb' : ¬ 1000000000000000000 ≤ x := by simpa using hb
    refine' a_setv (K := K) ?g12 ?g13
    case g12 => walk_at "er"
    intro H4 e4
    have h4 := e4 o _ (e3 o _ h2)
    have E4 : Ex H H4 := ((e1.trans e2).trans e3).trans e4
    have hz4 := hzz.mono E4
    refine b_forR1 (K := K) (n := sizes.length) ?_ (by omega) (fun i σ' H' => ∃ y1 y2, σ' = [some (.int x), some (.ref pz), some (.ref o), some (.int x), none, some (.int (sdM (x % 2147483629) i)), y1, y2] ∧ Ex H H' ∧ H' o = some (.lst (vis ((sizes.zipIdx.take i).map fun p => twM (sdM (x % 2147483629) (p.2 + 1)) / 19 % p.1)))) (fun H5 e5 => ⟨none, none, rfl, E4.trans e5, e5 o _ h4⟩) ?_ ?_
    · walk_at "era"
    · rintro i σ' H' hi ⟨y1, y2, rfl, e, hO⟩
      have hn : sizes[i]? = some sizes[i] := List.getElem?_eq_getElem hi
      have hn2 := hpos sizes[i] (List.getElem_mem hi)
      have hg : sizes.getD i 0 = sizes[i] := by rw [List.getD_eq_getElem?_getD, hn]; rfl
      have hn3 : 0 < sizes.getD ((i : Nat) : Int).toNat 0 := by rw [Int.toNat_natCast, hg]; exact hn2.1
      have hzi := hzz.mono e
      generalize hsd : sdM (x % 2147483629) i = sd
      refine' a_setv (K := K) ?g14 ?g15
      case g14 => walk_at "er"
      intro H5 e5
      have hsd1 : sdM (x % 2147483629) (i + 1) = (sd * 48271 + 974711 * (i : Int) + 12345) % 2147483647 := by rw [← hsd]; rfl
      have hb1 : 0 ≤ (sd * 48271 + 974711 * (i : Int) + 12345) % 2147483647 := Int.emod_nonneg _ (by decide)
      have hb2 : (sd * 48271 + 974711 * (i : Int) + 12345) % 2147483647 < 2147483647 := Int.emod_lt_of_pos _ (by decide)
      generalize hsd2 : (sd * 48271 + 974711 * (i : Int) + 12345) % 2147483647 = sd2 at hsd1 hb1 hb2
      refine' a_setv (K := K) ?g16 ?g17
      case g16 => walk_at "er"
      intro H6 e6
      replace hzi := (hzi.mono e5).mono e6
      refine' a_app (K := K) (e6 o _ (e5 o _ hO)) (er_v rfl) ?g18 (by rw [List.length_map, List.length_map, List.length_take]; omega) ?g19
      case g18 => walk_at "er"
      intro H7 e7
      refine ⟨some (.int i), some (.int (twM sd2)), ?_, Ex.mut (((e.trans e5).trans e6).trans e7) ho, ?_⟩
      · rw [hsd1]
        rfl
      · rw [upd_same, map_take_next (zipIdx_at hn), vis_app, hsd1, Int.toNat_natCast, hg]
        rfl
    · rintro σ' H' ⟨y1, y2, rfl, e, hO⟩
      refine a_rete (K := K) (er_var (K := K) (d := .n (vis (digM x sizes))) rfl ⟨o, rfl, ?_⟩) rfl e hk
      rw [hO, List.take_of_length_le (by rw [List.length_zipIdx]; exact Nat.le_refl _)]
      unfold digM
      rw [if_neg hb']
      rfl
def pressM (a b : List Nat) : List Nat := (a.zip b).map fun p => if p.2 = 45 then p.1 else p.2
theorem pressM_len {a b : List Nat} (h : a.length = b.length) : (pressM a b).length = a.length := by
  unfold pressM
  rw [List.length_map, List.length_zip]
  omega
abbrev s__law_agree : Stmt := topS 46
theorem sc__law_agree : FnScope ["left", "right", "k"] ["left", "right"] (defScope s__law_agree) := ⟨rfl, rfl, rfl, by decide +kernel, rfl, by decide +kernel, by decide +kernel⟩

theorem get_getD {l : List Nat} {k : Nat} (h : k < l.length) : l[k]? = some (l.getD k 0) := by
  rw [List.getD_eq_getElem?_getD, List.getElem?_eq_getElem h]
  rfl
abbrev sp__law_agree (K : PySem.W.Frag) : Sp := spR K (fun a : List Nat × List Nat => a.1.length = a.2.length ∧ a.1.length ≤ 1000) (fun a => [.s (S a.1), .s (S a.2)]) fun a => .b (agreeM a.1 a.2)
theorem has__law_agree (T : Txt K mg) (h : At K mg "_law_agree" s__law_agree ["left", "right"]) : Has P w K mg base 1 "_law_agree" ["left", "right"] (sp__law_agree K) := by
  refine h.hasR sc__law_agree (fun _ => rfl) fun f cdv A outer s H a vs Q E hr hp hv hk => ?_
  obtain ⟨low, high⟩ := a
  obtain ⟨h1, h2⟩ := hp
  replace h1 : low.length = high.length := h1
  replace h2 : low.length ≤ 1000 := h2
  rcases hv with _ | ⟨rfl, _ | ⟨rfl, _ | _⟩⟩
  have sc := sc__law_agree
  refine ⟨_, (pss_cons (ps_for PassesOwn.never rfl (pi_range1 (by rfl) T.b_range (pa_cons (pe_callB cr_lenStr (by rfl) T.b_len (by decide +kernel) (pa_cons (pv 0) pa_nil)) pa_nil)) (pg_name (i := 2) sc.nd rfl (Or.inl rfl)) (pss_one (ps_if (PW.pt (pw_and (pt_cmpR op_ne (pe_ix ix_str (pv 0) (pv 2) (fun _ _ => rfl)) (pe_strS [45] (by rfl)) (nomark _)) (pw_and (pt_cmpR op_ne (pe_ix ix_str (pv 1) (pv 2) (fun _ _ => rfl)) (pe_strS [45] (by rfl)) (nomark _)) (pw_and1 (pt_cmpR op_ne (pe_ix ix_str (pv 0) (pv 2) (fun _ _ => rfl)) (pe_ix ix_str (pv 1) (pv 2) (fun _ _ => rfl)) (nomark _)))))) (pss_one (ps_ret pe_bl)) pss_nil)))
    (pss_one (ps_ret pe_bl))), ?_⟩
  refine b_forR1 (K := K) (n := low.length) ?_ (by omega) (fun i σ' H' => ∃ y, σ' = [some (.str (S low)), some (.str (S high)), y] ∧ Ex H H' ∧ ((low.zip high).take i).all okP = true) (fun H5 e5 => ⟨none, rfl, e5, rfl⟩) ?_ ?_
  · walk_at "era"
  · rintro i σ' H' hi ⟨y, rfl, e, hM⟩
    refine' a_when1 (K := K) ?g1 ?g2 ?g3
    case g1 => walk_at "et"
    case g2 =>
      intro hb H3 e3
      refine' a_rete (K := K) er_c ?g4 (e.trans e3) hk
      have e0 : agreeM low high = false := all_not (zip_at (get_getD hi) (get_getD (by omega : i < high.length))) (by simp at hb; simp [okP]; omega)
      show Dd.b false = Dd.b (agreeM low high)
      rw [e0]
    case g3 =>
      intro hb H3 e3
      refine ⟨_, rfl, e.trans e3, ?_⟩
      rw [all_next (zip_at (get_getD hi) (get_getD (by omega : i < high.length))), hM]
      simp at hb
      simp [okP]
      omega
  · rintro σ' H' ⟨y, rfl, e, hM⟩
    refine' a_rete (K := K) er_c ?g5 e hk
    have e1 : low.length = (low.zip high).length := by rw [List.length_zip]; omega
    rw [e1, all_end] at hM
    show Dd.b true = Dd.b (agreeM low high)
    rw [show agreeM low high = true from hM]

abbrev s__law_press : Stmt := topS 45
theorem sc__law_press : FnScope ["under", "over", "k"] ["under", "over"] (defScope s__law_press) := ⟨rfl, rfl, rfl, by decide +kernel, rfl, by decide +kernel, by decide +kernel⟩

theorem zip_range {α : Type} {low high : List Nat} (h : low.length = high.length) (f : Nat × Nat → α) : (low.zip high).map f = (List.range low.length).map fun k => f (low.getD k 0, high.getD k 0) := by
  refine List.ext_getElem (by simp; omega) fun i h1 h2 => ?_
  simp at h1 h2 ⊢
  congr 1
  rw [List.getElem?_eq_getElem (by omega), List.getElem?_eq_getElem (by omega)]
  rfl
abbrev sp__law_press (K : PySem.W.Frag) : Sp := spR K (fun a : List Nat × List Nat => a.1.length = a.2.length ∧ a.1.length ≤ 1000) (fun a => [.s (S a.1), .s (S a.2)]) fun a => .s (S (pressM a.1 a.2))
theorem has__law_press (T : Txt K mg) (h : At K mg "_law_press" s__law_press ["under", "over"]) : Has P w K mg base 1 "_law_press" ["under", "over"] (sp__law_press K) := by
  refine h.hasR sc__law_press (fun _ => rfl) fun f cdv A outer s H a vs Q E hr hp hv hk => ?_
  obtain ⟨low, high⟩ := a
  obtain ⟨h1, h2⟩ := hp
  replace h1 : low.length = high.length := h1
  replace h2 : low.length ≤ 1000 := h2
  rcases hv with _ | ⟨rfl, _ | ⟨rfl, _ | _⟩⟩
  have sc := sc__law_press
  refine ⟨_, (pss_one (ps_ret (pe_bm_k (K := K) PySem.F.plainAttrs_str PySem.F.slot_str_join PySem.F.type_str_join (mt_join_k (K := K)) (pe_strS [] (by rfl)) (pa_cons (pe_lc (own := [("k", 2)]) (g := gName 2) (by rfl) sc.nd (pi_range1 (by rfl) T.b_range (pa_cons (pe_callB cr_lenStr (by rfl) T.b_len (by decide +kernel) (pa_cons (pv 0) pa_nil)) pa_nil)) (blkOk_by (N := ["under", "over", "k"]) (sc := defScope s__law_press) (own := [("k", 2)]) (by decide +kernel)) (fun _ _ _ _ _ => (pg_name (i := 2) sc.nd rfl (Or.inl rfl))) (fun _ _ _ _ _ => pts_nil) (fun _ _ _ _ _ => (pe_ix (ix_list_k (K := K)) (pe_lst (pa_cons (pe_ix ix_str (pv 1) (pv 2) (fun _ _ => rfl)) (pa_cons (pe_ix ix_str (pv 0) (pv 2) (fun _ _ => rfl)) pa_nil))) (pe_callTy cr_int (by rfl) T.b_int (by decide +kernel) (pa_cons (pe_cmpR op_eq (pe_ix ix_str (pv 1) (pv 2) (fun _ _ => rfl)) (pe_strS [45] (by rfl)) (nomark _)) pa_nil)) (fun _ _ => rfl)))) pa_nil)))), ?_⟩
  refine' a_rete (K := K) ?g1 rfl (Ex.refl H) hk
  refine er_bm (K := K) (d0 := .s (S [])) (ds := [.n ((pressM low high).map fun c => V.str (S [c]))]) er_c (era_cons (Er.to (er_lcR' (K := K) (n := low.length) (vs := [2]) (fun k => V.str (S [if high.getD k 0 = 45 then low.getD k 0 else high.getD k 0])) ?g2 (by omega) (fun _ => rfl) ?g3) ?g4) era_nil) (rm_joinC ?g5)
  case g2 => walk_at "era"
  case g3 =>
    intro i H1 e hi
    refine' Er.to (K := K) (er_pickC (c := high.getD i 0) (e := low.getD i 0) ?g6 ?g7 ?g8) ?g9
    case g6 => exact er_op (d1 := .s (S high)) (er_v rfl) (er_v rfl) (ro_ixC (by omega) (by omega) (by omega))
    case g7 => exact er_op (d1 := .s (S low)) (er_v rfl) (er_v rfl) (ro_ixC (by omega) (by omega) (by omega))
    case g8 => walk_at "er"
    rw [Int.toNat_natCast]
    by_cases hc : high.getD i 0 = 45
    · rw [if_pos hc, hc]; rfl
    · rw [if_neg hc, decide_eq_false (by simpa using hc)]; rfl
  case g4 => rw [pressM, zip_range h1, List.map_map]; rfl
  case g5 =>
    rw [pressM_len h1]
    omega

abbrev s__law_free : Stmt := topS 47
theorem sc__law_free : FnScope ["left", "cover", "k"] ["left", "cover"] (defScope s__law_free) := ⟨rfl, rfl, rfl, by decide +kernel, rfl, by decide +kernel, by decide +kernel⟩

def freeM (a b : List Nat) : List Nat := (a.zip b).map fun p => if p.2 = 45 then p.1 else 45
theorem freeM_len {a b : List Nat} (h : a.length = b.length) : (freeM a b).length = a.length := by
  unfold freeM
  rw [List.length_map, List.length_zip]
  omega
abbrev sp__law_free (K : PySem.W.Frag) : Sp := spR K (fun a : List Nat × List Nat => a.1.length = a.2.length ∧ a.1.length ≤ 1000) (fun a => [.s (S a.1), .s (S a.2)]) fun a => .s (S (freeM a.1 a.2))
theorem has__law_free (T : Txt K mg) (h : At K mg "_law_free" s__law_free ["left", "cover"]) : Has P w K mg base 1 "_law_free" ["left", "cover"] (sp__law_free K) := by
  refine h.hasR sc__law_free (fun _ => rfl) fun f cdv A outer s H a vs Q E hr hp hv hk => ?_
  obtain ⟨low, high⟩ := a
  obtain ⟨h1, h2⟩ := hp
  replace h1 : low.length = high.length := h1
  replace h2 : low.length ≤ 1000 := h2
  rcases hv with _ | ⟨rfl, _ | ⟨rfl, _ | _⟩⟩
  have sc := sc__law_free
  refine ⟨_, (pss_one (ps_ret (pe_bm_k (K := K) PySem.F.plainAttrs_str PySem.F.slot_str_join PySem.F.type_str_join (mt_join_k (K := K)) (pe_strS [] (by rfl)) (pa_cons (pe_lc (own := [("k", 2)]) (g := gName 2) (by rfl) sc.nd (pi_range1 (by rfl) T.b_range (pa_cons (pe_callB cr_lenStr (by rfl) T.b_len (by decide +kernel) (pa_cons (pv 0) pa_nil)) pa_nil)) (blkOk_by (N := ["left", "cover", "k"]) (sc := defScope s__law_free) (own := [("k", 2)]) (by decide +kernel)) (fun _ _ _ _ _ => (pg_name (i := 2) sc.nd rfl (Or.inl rfl))) (fun _ _ _ _ _ => pts_nil) (fun _ _ _ _ _ => (pe_ix (ix_list_k (K := K)) (pe_lst (pa_cons (pe_strS [45] (by rfl)) (pa_cons (pe_ix ix_str (pv 0) (pv 2) (fun _ _ => rfl)) pa_nil))) (pe_callTy cr_int (by rfl) T.b_int (by decide +kernel) (pa_cons (pe_cmpR op_eq (pe_ix ix_str (pv 1) (pv 2) (fun _ _ => rfl)) (pe_strS [45] (by rfl)) (nomark _)) pa_nil)) (fun _ _ => rfl)))) pa_nil)))), ?_⟩
  refine' a_rete (K := K) ?g1 rfl (Ex.refl H) hk
  refine er_bm (K := K) (d0 := .s (S [])) (ds := [.n ((freeM low high).map fun c => V.str (S [c]))]) er_c (era_cons (Er.to (er_lcR' (K := K) (n := low.length) (vs := [2]) (fun k => V.str (S [if high.getD k 0 = 45 then low.getD k 0 else 45])) ?g2 (by omega) (fun _ => rfl) ?g3) ?g4) era_nil) (rm_joinC ?g5)
  case g2 => walk_at "era"
  case g3 =>
    intro i H1 e hi
    refine' Er.to (K := K) (er_pickC (c := 45) (e := low.getD i 0) ?g6 ?g7 ?g8) ?g9
    case g6 => exact er_c
    case g7 => exact er_op (d1 := .s (S low)) (er_v rfl) (er_v rfl) (ro_ixC (by omega) (by omega) (by omega))
    case g8 => walk_at "er"
    rw [Int.toNat_natCast]
    by_cases hc : high.getD i 0 = 45
    · rw [if_pos hc, hc]; rfl
    · rw [if_neg hc, decide_eq_false (by simpa using hc)]; rfl
  case g4 => rw [freeM, zip_range h1, List.map_map]; rfl
  case g5 =>
    rw [freeM_len h1]
    omega

end
end Mi

set_option maxHeartbeats 4000000
namespace Mi
open PySem PySem.Spec PyProof.Rows L2 Evl
local macro_rules | `(tactic| walk_at "side") => `(tactic| (first | assumption | omega | exact rfl | decide | (simp only [List.length_cons, List.length_nil, List.length_map, List.length_append, List.length_replicate] <;> omega)))
local macro_rules | `(tactic| walk_at "ro") => `(tactic| (first
  | with_reducible exact ro_I0
  | with_reducible exact ro_1018
  | with_reducible exact ro_neC
  | with_reducible exact ro_eqC
  | with_reducible exact ro_neI
  | with_reducible exact ro_eqI
  | with_reducible exact ro_neB
  | with_reducible exact ro_eqB
  | ((with_reducible apply ro_mod); (walk_at "side"))
  | ((with_reducible apply ro_div) <;> (walk_at "side"))
  | ((with_reducible apply ro_divW) <;> (walk_at "side"))
  | with_reducible exact ro_1012
  | with_reducible exact ro_1015
  | ((with_reducible apply ro_mulL) <;> (walk_at "side"))
  | ((with_reducible apply ro_mulR) <;> (walk_at "side"))
  | ((with_reducible apply ro_addC); (walk_at "side"))
  | ((with_reducible apply ro_ixC) <;> (walk_at "side"))
  | ((with_reducible apply ro_ixI) <;> (walk_at "side"))
  | ((with_reducible apply ro_ixIN) <;> (walk_at "side"))
  | ((with_reducible apply ro_ixT2) <;> (walk_at "side"))
  | ((with_reducible apply ro_ixG) <;> (walk_at "side"))
  | ((with_reducible apply ro_eq); exact rfl)
  | ((with_reducible apply ro_ne); exact rfl)
  | with_reducible exact ro_isN
  | with_reducible exact ro_notN
  | with_reducible exact ro_eqL
  | with_reducible exact ro_neL
  | with_reducible exact ro_eqU
  | ((with_reducible apply ro_cat); (walk_at "side"))
  | with_reducible exact ro_inLi
  | with_reducible exact ro_inNi
  | with_reducible exact ro_inUi
  | ((with_reducible apply ro_inL) <;> (walk_at "side"))
  | ((with_reducible apply ro_inN) <;> (walk_at "side"))
  | ((with_reducible apply ro_inU) <;> (walk_at "side"))))
local macro_rules | `(tactic| walk_at "rc") => `(tactic| (first
  | with_reducible exact rc_int
  | with_reducible exact rc_intB
  | with_reducible exact rc_max2
  | ((with_reducible apply rc_lenC); (walk_at "side"))
  | with_reducible exact rc_lenI
  | with_reducible exact rc_lenT
  | with_reducible exact rc_lenIN
  | with_reducible exact rc_lenTN
  | with_reducible exact rc_lenL
  | with_reducible exact rc_lenN
  | with_reducible exact rc_lenU
  | with_reducible exact rc_listL
  | with_reducible exact rc_listU
  | with_reducible exact rc_tupL
  | with_reducible exact rc_tupN
  | ((with_reducible apply rc_isi_int); decide +kernel)
  | ((with_reducible apply rc_isi_str); decide +kernel)
  | ((with_reducible apply rc_isi_bl); decide +kernel)
  | ((with_reducible apply rc_isi_non); decide +kernel)
  | ((with_reducible apply rc_isi_u); decide +kernel)
  | ((with_reducible apply rc_isi_l); decide +kernel)))
local macro_rules | `(tactic| walk_at "er") => `(tactic| (first
  | ((with_reducible apply er_var); (exact rfl); assumption)
  | ((with_reducible apply er_v); exact rfl)
  | with_reducible exact er_c
  | ((with_reducible apply er_pick); (walk_at "er"); (walk_at "er"); (walk_at "er"))
  | ((with_reducible apply er_op); (walk_at "er"); (walk_at "er"); (walk_at "ro"))
  | ((with_reducible apply er_cb); (walk_at "era"); (walk_at "rc"))
  | ((with_reducible apply er_lst'); (walk_at "era"); (exact rfl); (walk_at "side"))
  | ((with_reducible apply er_tup'); (walk_at "era"); (exact rfl); (walk_at "side"))
  | ((with_reducible apply er_notV); (walk_at "er"))
  | ((with_reducible apply er_andV); (walk_at "er"); (intro _; (walk_at "er")))
  | ((with_reducible apply er_orV); (walk_at "er"); (intro _; (walk_at "er")))
  | ((with_reducible apply er_ite); (walk_at "et"); (intro _; (walk_at "er")); (intro _; (walk_at "er")))))
local macro_rules | `(tactic| walk_at "era") => `(tactic| (first
  | with_reducible exact era_nil
  | ((with_reducible apply era_cons); (walk_at "er"); (walk_at "era"))))
local macro_rules | `(tactic| walk_at "et") => `(tactic| (first
  | ((with_reducible apply et_an); (walk_at "et"); (intro _; (walk_at "et")))
  | ((with_reducible apply et_orr); (walk_at "et"); (intro _; (walk_at "et")))
  | ((with_reducible apply et_nt); (walk_at "et"))
  | ((with_reducible apply et1); (walk_at "er"))
  | ((with_reducible apply et2); (walk_at "er"))))

section
variable {P : Program} {w : World} {K : PySem.W.Frag} {mg : Str → Option Value} {base : Heap}

abbrev s__law_marks : Stmt := topS 41
theorem sc__law_marks : FnScope ["row", "alls", "first", "second", "third"] ["row"] (defScope s__law_marks) := ⟨rfl, rfl, rfl, by decide +kernel, rfl, by decide +kernel, by decide +kernel⟩

def ink2 (f n : Int) : Int := (f + 1 + n) % 27
def ink3 (f m n : Int) : Int := if (f + 1 + n) % 27 = ink2 f m then (f + 26) % 27 else (f + 1 + n) % 27
def inkF (sp : List Int) : Int := sp.getD 1 0 * (if sp.getD 0 0 < 2 then 1 else 0)
def inksM (sp : List Int) : List Nat := [alls.getD (inkF sp).toNat 0, alls.getD (ink2 (inkF sp) (sp.getD 2 0)).toNat 0, alls.getD (ink3 (inkF sp) (sp.getD 2 0) (sp.getD 3 0)).toNat 0]
def InkOk (sp : List Int) : Prop := 4 ≤ sp.length ∧ sp.length ≤ 1000 ∧ 0 ≤ sp.getD 1 0 ∧ sp.getD 1 0 < 27
theorem inkF_bd {sp : List Int} (h : InkOk sp) : 0 ≤ inkF sp ∧ inkF sp < 27 := by
  obtain ⟨_, _, h1, h2⟩ := h
  unfold inkF
  split <;> omega
abbrev sp__law_marks (K : PySem.W.Frag) : Sp := spR K (fun sp : List Int => InkOk sp) (fun sp => [.l (vis sp)]) fun sp => .s (S (inksM sp))
theorem has__law_marks (T : Txt K mg) (h : At K mg "_law_marks" s__law_marks ["row"]) : Has P w K mg base 1 "_law_marks" ["row"] (sp__law_marks K) := by
  refine h.hasR sc__law_marks (fun _ => rfl) fun f cdv A outer s H sp vs Q E hr hp hv hk => ?_
  have hF := inkF_bd hp
  obtain ⟨hl, hl2, h22⟩ := hp
  rcases hv with _ | ⟨⟨p, rfl, hS⟩, _ | _⟩
  have hs : Is K H (.l (vis sp)) (.ref p) := ⟨p, rfl, hS⟩
  have sc := sc__law_marks
  refine ⟨_, (pss_cons (ps_set (i := 1) sc.nd rfl (Or.inl rfl) (pe_strS [46, 97, 98, 99, 100, 101, 102, 103, 104, 105, 106, 107, 108, 109, 110, 111, 112, 113, 114, 115, 116, 117, 118, 119, 120, 121, 122] (by rfl)))
    (pss_cons (ps_set (i := 2) sc.nd rfl (Or.inl rfl) (pe_op op_mul (pe_callTy cr_int (by rfl) T.b_int (by decide +kernel) (pa_cons (pe_ix (ix_list_k (K := K)) (pv 0) pe_int (fun _ _ => rfl)) pa_nil)) (pe_callTy cr_int (by rfl) T.b_int (by decide +kernel) (pa_cons (pe_cmpR op_lt (pe_ix (ix_list_k (K := K)) (pv 0) pe_int (fun _ _ => rfl)) pe_int (nomark _)) pa_nil))))
    (pss_cons (ps_set (i := 3) sc.nd rfl (Or.inl rfl) (pe_op op_mod (pe_op op_add (pe_op op_add (pv 2) pe_int) (pe_callTy cr_int (by rfl) T.b_int (by decide +kernel) (pa_cons (pe_ix (ix_list_k (K := K)) (pv 0) pe_int (fun _ _ => rfl)) pa_nil))) pe_int))
    (pss_cons (ps_set (i := 4) sc.nd rfl (Or.inl rfl) (pe_op op_mod (pe_op op_add (pe_op op_add (pv 2) pe_int) (pe_callTy cr_int (by rfl) T.b_int (by decide +kernel) (pa_cons (pe_ix (ix_list_k (K := K)) (pv 0) pe_int (fun _ _ => rfl)) pa_nil))) pe_int))
    (pss_cons (ps_if (pt_cmpR op_eq (pv 4) (pv 3) (nomark _)) (pss_one (ps_set (i := 4) sc.nd rfl (Or.inl rfl) (pe_op op_mod (pe_op op_add (pv 2) pe_int) pe_int))) pss_nil)
    (pss_one (ps_ret (pe_op op_addS (pe_op op_addS (pe_ix ix_str (pv 1) (pv 2) (fun _ _ => rfl)) (pe_ix ix_str (pv 1) (pv 3) (fun _ _ => rfl))) (pe_ix ix_str (pv 1) (pv 4) (fun _ _ => rfl)))))))))), ?_⟩
  refine' a_setv (K := K) (x := .str (S alls)) er_c ?g1
  intro H1 e1
  replace hs := hs.mono e1
  have h22a : 0 ≤ sp.getD (1 : Int).toNat 0 := h22.1
  have h22b : sp.getD (1 : Int).toNat 0 < 27 := h22.2
  refine' a_setv (K := K) (x := .int (inkF sp)) (Er.to ?g6 ?g7) ?g8
  case g6 => walk_at "er"
  case g7 =>
    show Dd.i (sp.getD 1 0 * (if decide (sp.getD 0 0 < 2) = true then 1 else 0)) = Dd.i (inkF sp)
    unfold inkF
    by_cases h : sp.getD 0 0 < 2
    · rw [decide_eq_true h, if_pos rfl, if_pos h]
    · rw [decide_eq_false h, if_neg Bool.false_ne_true, if_neg h]
  intro H3 e3
  replace hs := hs.mono e3
  refine' a_setv (K := K) ?g9 ?g10
  case g9 => walk_at "er"
  intro H4 e4
  replace hs := hs.mono e4
  refine' a_setv (K := K) ?g11 ?g12
  case g11 => walk_at "er"
  intro H5 e5
  replace hs := hs.mono e5
  refine' a_ifAsg (K := K) (x := .int (ink3 (inkF sp) (sp.getD 2 0) (sp.getD 3 0))) ?g13 ?g14 ?g15 ?g16
  case g13 => walk_at "et"
  case g14 =>
    intro hb
    have hb' : (inkF sp + 1 + sp.getD 3 0) % 27 = ink2 (inkF sp) (sp.getD 2 0) := of_decide_eq_true hb
    refine' Er.to (K := K) ?g17 ?g18
    case g17 => walk_at "er"
    show Dd.i _ = Dd.i _
    unfold ink3
    rw [if_pos hb']
  case g15 =>
    intro hb
    have hb' : ¬ (inkF sp + 1 + sp.getD 3 0) % 27 = ink2 (inkF sp) (sp.getD 2 0) := of_decide_eq_false hb
    have e0 : ink3 (inkF sp) (sp.getD 2 0) (sp.getD 3 0) = (inkF sp + 1 + sp.getD 3 0) % 27 := by
      unfold ink3
      rw [if_neg hb']
    rw [e0]
    rfl
  intro H6 e6
  have b2a : 0 ≤ ink2 (inkF sp) (sp.getD 2 0) := Int.emod_nonneg _ (by decide)
  have b2b : ink2 (inkF sp) (sp.getD 2 0) < 27 := Int.emod_lt_of_pos _ (by decide)
  have b3a : 0 ≤ ink3 (inkF sp) (sp.getD 2 0) (sp.getD 3 0) := by
    unfold ink3
    split <;> exact Int.emod_nonneg _ (by decide)
  have b3b : ink3 (inkF sp) (sp.getD 2 0) (sp.getD 3 0) < 27 := by
    unfold ink3
    split <;> exact Int.emod_lt_of_pos _ (by decide)
  have la : alls.length = 27 := rfl
  refine a_rete (K := K) (er_op (K := K) (d1 := .s (S ([alls.getD (inkF sp).toNat 0] ++ [alls.getD (ink2 (inkF sp) (sp.getD 2 0)).toNat 0]))) (d2 := .s (S [alls.getD (ink3 (inkF sp) (sp.getD 2 0) (sp.getD 3 0)).toNat 0])) (er_op (K := K) (d1 := .s (S [alls.getD (inkF sp).toNat 0])) (d2 := .s (S [alls.getD (ink2 (inkF sp) (sp.getD 2 0)).toNat 0])) ?_ ?_ (ro_addC (by simp))) ?_ (ro_addC (by simp))) rfl ((((e1.trans e3).trans e4).trans e5).trans e6) hk
  · exact er_op (er_v rfl) (er_v rfl) (ro_ixC hF.1 (by rw [la]; exact hF.2) (by rw [la]; decide))
  · exact er_op (er_v rfl) (er_v rfl) (ro_ixC b2a (by rw [la]; exact b2b) (by rw [la]; decide))
  · exact er_op (er_v rfl) (er_v rfl) (ro_ixC b3a (by rw [la]; exact b3b) (by rw [la]; decide))

def pickM (menu : List Nat) (m : Int) (line : List Int) (size : Nat) : List Nat := (List.range size).map fun k => menu.getD (line.getD k 0 % m).toNat 0
theorem pickM_len {menu : List Nat} {m : Int} {line : List Int} {size : Nat} : (pickM menu m line size).length = size := by simp [pickM]
/-- menu[int(line[k]) % m] -/
theorem er_menu {te tl tk : TE} {σ : L2.St} {H : Hp} {menu : List Nat} {line : List Int} {m : Nat} {k : Nat} (h1 : Er K te σ H (.s (S menu))) (h2 : Er K tl σ H (.l (vis line))) (h3 : Er K tk σ H (.i (k : Int))) (hm : 0 < m) (hl : m ≤ menu.length) (hz : menu.length ≤ 1000) (hk : k < line.length) :
    Er K (tOp rIxS te (tOp (rI (fun _ j => 0 < j) fun i j => .int (i % j)) (tCB rInt1 (tCons (tOp (rIxL K) tl tk) tNil)) (tC (.int (m : Int))))) σ H (.s (S [menu.getD (line.getD k 0 % (m : Int)).toNat 0])) := by
  have q0 : 0 ≤ line.getD k 0 % (m : Int) := Int.emod_nonneg _ (by omega)
  have q1 : line.getD k 0 % (m : Int) < (m : Int) := Int.emod_lt_of_pos _ (by omega)
  exact er_op (d2 := .i (line.getD k 0 % (m : Int))) h1 (er_op (er_cb (era_cons (Er.to (er_op h2 h3 (ro_ixI (by omega) (by omega))) (by rw [Int.toNat_natCast])) era_nil) rc_int) er_c (ro_mod (by omega))) (ro_ixC q0 (by omega) (by omega))
abbrev s__law_dashed : Stmt := topS 50
theorem sc__law_dashed : FnScope ["layer", "row", "much", "least", "k"] ["layer", "row", "much"] (defScope s__law_dashed) := ⟨rfl, rfl, rfl, by decide +kernel, rfl, by decide +kernel, by decide +kernel⟩

def dashM (layer : List Nat) (line : List Int) (low : Int) : List Nat := (List.range layer.length).map fun k => if low ≤ line.getD k 0 % 6 then layer.getD k 0 else 45
theorem dashM_len {layer : List Nat} {line : List Int} {low : Int} : (dashM layer line low).length = layer.length := by simp [dashM]
abbrev sp__law_dashed (K : PySem.W.Frag) : Sp := spR K (fun a : List Nat × List Int × Bool => a.1.length ≤ a.2.1.length ∧ a.1.length ≤ 1000) (fun a => [.s (S a.1), .l (vis a.2.1), .b a.2.2]) fun a => .s (S (dashM a.1 a.2.1 (if a.2.2 = true then 3 else 1)))
theorem has__law_dashed (T : Txt K mg) (h : At K mg "_law_dashed" s__law_dashed ["layer", "row", "much"]) : Has P w K mg base 1 "_law_dashed" ["layer", "row", "much"] (sp__law_dashed K) := by
  refine h.hasR sc__law_dashed (fun _ => rfl) fun f cdv A outer s H a vs Q E hr hp hv hk => ?_
  obtain ⟨layer, line, much⟩ := a
  obtain ⟨h1, h2⟩ := hp
  replace h1 : layer.length ≤ line.length := h1
  replace h2 : layer.length ≤ 1000 := h2
  rcases hv with _ | ⟨rfl, _ | ⟨⟨p, rfl, hS⟩, _ | ⟨rfl, _ | _⟩⟩⟩
  have hs : Is K H (.l (vis line)) (.ref p) := ⟨p, rfl, hS⟩
  have sc := sc__law_dashed
  refine ⟨_, (pss_cons (ps_set (i := 3) sc.nd rfl (Or.inr rfl) (pe_ix (ix_list_k (K := K)) (pe_lst (pa_cons pe_int (pa_cons pe_int pa_nil))) (pe_callTy cr_int (by rfl) T.b_int (by decide +kernel) (pa_cons (pv 2) pa_nil)) (fun _ _ => rfl)))
    (pss_one (ps_ret (pe_bm_k (K := K) PySem.F.plainAttrs_str PySem.F.slot_str_join PySem.F.type_str_join (mt_join_k (K := K)) (pe_strS [] (by rfl)) (pa_cons (pe_lc (own := [("k", 4)]) (g := gName 4) (by rfl) sc.nd (pi_range1 (by rfl) T.b_range (pa_cons (pe_callB cr_lenStr (by rfl) T.b_len (by decide +kernel) (pa_cons (pv 0) pa_nil)) pa_nil)) (blkOk_by (N := ["layer", "row", "much", "least", "k"]) (sc := defScope s__law_dashed) (own := [("k", 4)]) (by decide +kernel)) (fun _ _ _ _ _ => (pg_name (i := 4) sc.nd rfl (Or.inl rfl))) (fun _ _ _ _ _ => pts_nil) (fun _ _ _ _ _ => (pe_ix (ix_list_k (K := K)) (pe_lst (pa_cons (pe_strS [45] (by rfl)) (pa_cons (pe_ix ix_str (pv 0) (pv 4) (fun _ _ => rfl)) pa_nil))) (pe_callTy cr_int (by rfl) T.b_int (by decide +kernel) (pa_cons (pe_cmpR op_ge (pe_op op_mod (pe_callTy cr_int (by rfl) T.b_int (by decide +kernel) (pa_cons (pe_ix (ix_list_k (K := K)) (pv 1) (pv 4) (fun _ _ => rfl)) pa_nil)) pe_int) (pv 3) (nomark _)) pa_nil)) (fun _ _ => rfl)))) pa_nil))))), ?_⟩
  refine' a_setv (K := K) (x := .int (if much = true then 3 else 1)) (Er.to (er_pick (x := .int 1) (y := .int 3) er_c er_c (er_v rfl)) ?g0) ?g1
  case g0 => cases much <;> rfl
  intro H1 e1
  replace hs := hs.mono e1
  generalize (if much = true then (3 : Int) else 1) = low at hk
  refine' a_rete (K := K) ?g2 rfl e1 hk
  refine er_bm (K := K) (d0 := .s (S [])) (ds := [.n ((dashM layer line low).map fun c => V.str (S [c]))]) er_c (era_cons (Er.to (er_lcR' (K := K) (n := layer.length) (vs := [4]) (fun k => V.str (S [if low ≤ line.getD k 0 % 6 then layer.getD k 0 else 45])) ?g3 (by omega) (fun _ => rfl) ?g4) ?g5) era_nil) (rm_joinC ?g6)
  case g3 => walk_at "era"
  case g4 =>
    intro i H2 e hi
    replace hs := hs.mono e
    refine' Er.to (K := K) (er_pickC (c := 45) (e := layer.getD i 0) er_c ?g7 ?g8) ?g9
    case g7 => exact Er.to (er_op (d1 := .s (S layer)) (er_v rfl) (er_v rfl) (ro_ixC (by omega) (by omega) (by omega))) (by rw [Int.toNat_natCast])
    case g8 => walk_at "er"
    rw [Int.toNat_natCast]
    by_cases hc : low ≤ line.getD i 0 % 6
    · rw [if_pos hc, decide_eq_true hc]; rfl
    · rw [if_neg hc, decide_eq_false hc]; rfl
  case g5 => rw [dashM, List.map_map]; rfl
  case g6 =>
    rw [dashM_len]
    omega
end
end Mi

set_option maxHeartbeats 4000000
namespace Mi
open PySem PySem.Spec PyProof.Rows L2 Evl
local macro_rules | `(tactic| walk_at "side") => `(tactic| (first | assumption | omega | exact rfl | decide | (simp only [List.length_cons, List.length_nil, List.length_map, List.length_append, List.length_replicate] <;> omega)))
local macro_rules | `(tactic| walk_at "ro") => `(tactic| (first
  | with_reducible exact ro_I0
  | with_reducible exact ro_1018
  | with_reducible exact ro_neC
  | with_reducible exact ro_eqC
  | with_reducible exact ro_neI
  | with_reducible exact ro_eqI
  | with_reducible exact ro_neB
  | with_reducible exact ro_eqB
  | ((with_reducible apply ro_mod); (walk_at "side"))
  | ((with_reducible apply ro_div) <;> (walk_at "side"))
  | ((with_reducible apply ro_divW) <;> (walk_at "side"))
  | with_reducible exact ro_1012
  | with_reducible exact ro_1015
  | ((with_reducible apply ro_mulL) <;> (walk_at "side"))
  | ((with_reducible apply ro_mulR) <;> (walk_at "side"))
  | ((with_reducible apply ro_addC); (walk_at "side"))
  | ((with_reducible apply ro_ixC) <;> (walk_at "side"))
  | ((with_reducible apply ro_ixI) <;> (walk_at "side"))
  | ((with_reducible apply ro_ixIN) <;> (walk_at "side"))
  | ((with_reducible apply ro_ixT2) <;> (walk_at "side"))
  | ((with_reducible apply ro_ixG) <;> (walk_at "side"))
  | ((with_reducible apply ro_eq); exact rfl)
  | ((with_reducible apply ro_ne); exact rfl)
  | with_reducible exact ro_isN
  | with_reducible exact ro_notN
  | with_reducible exact ro_eqL
  | with_reducible exact ro_neL
  | with_reducible exact ro_eqU
  | ((with_reducible apply ro_cat); (walk_at "side"))
  | with_reducible exact ro_inLi
  | with_reducible exact ro_inNi
  | with_reducible exact ro_inUi
  | ((with_reducible apply ro_inL) <;> (walk_at "side"))
  | ((with_reducible apply ro_inN) <;> (walk_at "side"))
  | ((with_reducible apply ro_inU) <;> (walk_at "side"))))
local macro_rules | `(tactic| walk_at "rc") => `(tactic| (first
  | with_reducible exact rc_int
  | with_reducible exact rc_intB
  | with_reducible exact rc_max2
  | ((with_reducible apply rc_lenC); (walk_at "side"))
  | with_reducible exact rc_lenI
  | with_reducible exact rc_lenT
  | with_reducible exact rc_lenIN
  | with_reducible exact rc_lenTN
  | with_reducible exact rc_lenL
  | with_reducible exact rc_lenN
  | with_reducible exact rc_lenU
  | with_reducible exact rc_listL
  | with_reducible exact rc_listU
  | with_reducible exact rc_tupL
  | with_reducible exact rc_tupN
  | ((with_reducible apply rc_isi_int); decide +kernel)
  | ((with_reducible apply rc_isi_str); decide +kernel)
  | ((with_reducible apply rc_isi_bl); decide +kernel)
  | ((with_reducible apply rc_isi_non); decide +kernel)
  | ((with_reducible apply rc_isi_u); decide +kernel)
  | ((with_reducible apply rc_isi_l); decide +kernel)))
local macro_rules | `(tactic| walk_at "er") => `(tactic| (first
  | ((with_reducible apply er_var); (exact rfl); assumption)
  | ((with_reducible apply er_v); exact rfl)
  | with_reducible exact er_c
  | ((with_reducible apply er_pick); (walk_at "er"); (walk_at "er"); (walk_at "er"))
  | ((with_reducible apply er_op); (walk_at "er"); (walk_at "er"); (walk_at "ro"))
  | ((with_reducible apply er_cb); (walk_at "era"); (walk_at "rc"))
  | ((with_reducible apply er_lst'); (walk_at "era"); (exact rfl); (walk_at "side"))
  | ((with_reducible apply er_tup'); (walk_at "era"); (exact rfl); (walk_at "side"))
  | ((with_reducible apply er_notV); (walk_at "er"))
  | ((with_reducible apply er_andV); (walk_at "er"); (intro _; (walk_at "er")))
  | ((with_reducible apply er_orV); (walk_at "er"); (intro _; (walk_at "er")))
  | ((with_reducible apply er_ite); (walk_at "et"); (intro _; (walk_at "er")); (intro _; (walk_at "er")))))
local macro_rules | `(tactic| walk_at "era") => `(tactic| (first
  | with_reducible exact era_nil
  | ((with_reducible apply era_cons); (walk_at "er"); (walk_at "era"))))
local macro_rules | `(tactic| walk_at "et") => `(tactic| (first
  | ((with_reducible apply et_an); (walk_at "et"); (intro _; (walk_at "et")))
  | ((with_reducible apply et_orr); (walk_at "et"); (intro _; (walk_at "et")))
  | ((with_reducible apply et_nt); (walk_at "et"))
  | ((with_reducible apply et1); (walk_at "er"))
  | ((with_reducible apply et2); (walk_at "er"))))

section
variable {P : Program} {w : World} {K : PySem.W.Frag} {mg : Str → Option Value} {base : Heap}

abbrev s_peeled : Stmt := topS 10
theorem sc_peeled : FnScope ["left", "stamp", "sign", "above"] ["left", "stamp"] (defScope s_peeled) := ⟨rfl, rfl, rfl, by decide +kernel, rfl, by decide +kernel, by decide +kernel⟩

abbrev sp_peeled (K : PySem.W.Frag) : Sp := spR K (fun a : List Nat × List Nat => a.1.length ≤ 1000) (fun a => [.s (S a.1), .s (S a.2)]) fun a => .s (S (freeM a.1 a.2))
theorem has_peeled (T : Txt K mg) (h : At K mg "peeled" s_peeled ["left", "stamp"]) : Has P w K mg base 1 "peeled" ["left", "stamp"] (sp_peeled K) := by
  refine h.hasR sc_peeled (fun _ => rfl) fun f cdv A outer s H a vs Q E hr hp hv hk => ?_
  obtain ⟨one, two⟩ := a
  rcases hv with _ | ⟨rfl, _ | ⟨rfl, _ | _⟩⟩
  have sc := sc_peeled
  obtain ⟨_, gc_DASH⟩ := T.g_DASH
  have hp' : one.length ≤ 1000 := hp
  refine ⟨_, (pss_one (ps_ret (pe_bm_k (K := K) PySem.F.plainAttrs_str PySem.F.slot_str_join PySem.F.type_str_join (mt_join_k (K := K)) (pe_strS [] (by rfl)) (pa_cons (pe_lc (own := [("sign", 2), ("above", 3)]) (g := gTup K 2 (gCons (gName 2) (gCons (gName 3) gNil))) (by rfl) sc.nd (pi_zipS (by rfl) T.b_zip (pa_cons (pv 0) (pa_cons (pv 1) pa_nil))) (blkOk_by (N := ["left", "stamp", "sign", "above"]) (sc := defScope s_peeled) (own := [("sign", 2), ("above", 3)]) (by decide +kernel)) (fun _ _ _ _ _ => (pg_tup rfl (pgs_cons (pg_name (i := 2) sc.nd rfl (Or.inl rfl)) (pgs_cons (pg_name (i := 3) sc.nd rfl (Or.inl rfl)) pgs_nil)))) (fun _ _ _ _ _ => pts_nil) (fun _ _ _ _ _ => (pe_ifExp (pt_cmpR op_eq (pv 3) (pe_glob (v := .str (S [45])) rfl gc_DASH ⟨_, rfl⟩) (nomark _)) (pv 2) (pe_glob (v := .str (S [45])) rfl gc_DASH ⟨_, rfl⟩)))) pa_nil)))), ?_⟩
  refine' a_rete (K := K) ?g1 rfl (Ex.refl H) hk
  refine er_bm (K := K) (d0 := .s (S [])) (ds := [.n ((freeM one two).map fun c => V.str (S [c]))]) er_c (era_cons (Er.to (c_lcZ' (K := K) (one := one) (two := two) (vs := [2, 3]) (fun p => V.str (S [if p.2 = 45 then p.1 else 45])) ?g2 (by omega) (fun _ _ => rfl) ?g5) ?g3) era_nil) (rm_joinC ?g4)
  case g2 => walk_at "era"
  case g5 =>
    intro i c1 c2 H1 e h1 h2
    refine' Er.to (K := K) ?g6 ?g7
    case g6 => walk_at "er"
    show Dd.v (if decide ([c2] = [45]) = true then V.str (S [c1]) else V.str (S [45])) = Dd.v (V.str (S [if c2 = 45 then c1 else 45]))
    by_cases h : c2 = 45
    · rw [h]; rfl
    · rw [if_neg h, decide_eq_false (by simpa using h), if_neg Bool.false_ne_true]
  case g3 => rw [freeM, List.map_map]; rfl
  case g4 =>
    unfold freeM
    rw [List.length_map, List.length_zip]
    omega

abbrev s_agree : Stmt := topS 8
theorem sc_agree : FnScope ["one", "two", "first", "second"] ["one", "two"] (defScope s_agree) := ⟨rfl, rfl, rfl, by decide +kernel, rfl, by decide +kernel, by decide +kernel⟩

abbrev sp_agree (K : PySem.W.Frag) : Sp := spR K (fun _ : List Nat × List Nat => True) (fun a => [.s (S a.1), .s (S a.2)]) fun a => .b (agreeM a.1 a.2)
theorem has_agree (T : Txt K mg) (h : At K mg "agree" s_agree ["one", "two"]) : Has P w K mg base 1 "agree" ["one", "two"] (sp_agree K) := by
  refine h.hasR sc_agree (fun _ => rfl) fun f cdv A outer s H a vs Q E hr hp hv hk => ?_
  obtain ⟨one, two⟩ := a
  rcases hv with _ | ⟨rfl, _ | ⟨rfl, _ | _⟩⟩
  have sc := sc_agree
  obtain ⟨_, gc_DASH⟩ := T.g_DASH
  refine ⟨_, (pss_cons (ps_for PassesOwn.never rfl (pi_zipS (by rfl) T.b_zip (pa_cons (pv 0) (pa_cons (pv 1) pa_nil))) (pg_tup rfl (pgs_cons (pg_name (i := 2) sc.nd rfl (Or.inl rfl)) (pgs_cons (pg_name (i := 3) sc.nd rfl (Or.inl rfl)) pgs_nil))) (pss_one (ps_if (PW.pt (pw_and (pt_cmpR op_ne (pv 2) (pv 3) (nomark _)) (pw_and (pt_cmpR op_ne (pv 2) (pe_glob (v := .str (S [45])) rfl gc_DASH ⟨_, rfl⟩) (nomark _)) (pw_and1 (pt_cmpR op_ne (pv 3) (pe_glob (v := .str (S [45])) rfl gc_DASH ⟨_, rfl⟩) (nomark _)))))) (pss_one (ps_ret pe_bl)) pss_nil)))
    (pss_one (ps_ret pe_bl))), ?_⟩
  refine c_forZ (K := K) (one := one) (two := two) (by walk_at "era") (fun i σ' H' => ∃ x y, σ' = [some (.str (S one)), some (.str (S two)), x, y] ∧ Ex H H' ∧ ((one.zip two).take i).all okP = true) (fun H1 e => ⟨none, none, rfl, e, rfl⟩) ?_ ?_
  · rintro i c1 c2 σ' H' H2 h1 h2 ⟨x, y, rfl, e, hM⟩ e2
    refine' a_when1 (K := K) ?g1 ?g2 ?g3
    case g1 => walk_at "et"
    case g2 =>
      intro hb H3 e3
      refine' a_rete (K := K) er_c ?g4 ((e.trans e2).trans e3) hk
      have e0 : agreeM one two = false := all_not (zip_at h1 h2) (by simpa [okP] using hb)
      show Dd.b false = Dd.b (agreeM one two)
      rw [e0]
    case g3 =>
      intro hb H3 e3
      refine ⟨_, _, rfl, (e.trans e2).trans e3, ?_⟩
      rw [all_next (zip_at h1 h2), hM]
      simp at hb
      simp [okP]
      omega
  · rintro σ' H' ⟨x, y, rfl, e, hM⟩
    refine' a_rete (K := K) er_c ?g6 e hk
    rw [← List.length_zip, all_end] at hM
    show Dd.b true = Dd.b (agreeM one two)
    rw [show agreeM one two = true from hM]

abbrev s_is_layer : Stmt := topS 6
theorem sc_is_layer : FnScope ["value", "sign"] ["value"] (defScope s_is_layer) := ⟨rfl, rfl, rfl, by decide +kernel, rfl, by decide +kernel, by decide +kernel⟩

def signOk (c : Nat) : Bool := decide (c = 45) || decide (c ∈ alls)
def layerOk (l : List Nat) : Bool := (decide (1 ≤ l.length) && decide (l.length ≤ 30)) && l.all signOk
abbrev sp_is_layer (K : PySem.W.Frag) : Sp := spR K (fun a : List Nat => a.length ≤ 1000) (fun a => [.s (S a)]) fun a => .b (layerOk a)
theorem has_is_layer (T : Txt K mg) (h : At K mg "is_layer" s_is_layer ["value"]) : Has P w K mg base 1 "is_layer" ["value"] (sp_is_layer K) := by
  refine h.hasR sc_is_layer (fun _ => rfl) fun f cdv A outer s H a vs Q E hr hp hv hk => ?_
  replace hp : a.length ≤ 1000 := hp
  rcases hv with _ | ⟨rfl, _ | _⟩
  have sc := sc_is_layer
  obtain ⟨_, gc_DASH⟩ := T.g_DASH
  obtain ⟨_, gc_MARKS⟩ := T.g_MARKS
  obtain ⟨_, gc_LONGEST⟩ := T.g_LONGEST
  refine ⟨_, (pss_cons (ps_if (pt_not (pt_val (pe_callB (cr_isi_k (K := K)) (by rfl) T.b_isinstance (by decide +kernel) (pa_cons (pv 0) (pa_cons (pe_bltn (v := .ty "str") (by rfl) T.b_str (by decide +kernel) rfl) pa_nil))))) (pss_one (ps_ret pe_bl)) pss_nil)
    (pss_cons (ps_if (pt_not (pt_chain op_le op_le pe_int (pe_callB cr_lenStr (by rfl) T.b_len (by decide +kernel) (pa_cons (pv 0) pa_nil)) (pe_glob (v := .int 30) rfl gc_LONGEST ⟨_, rfl⟩))) (pss_one (ps_ret pe_bl)) pss_nil)
    (pss_one (ps_ret (pe_callB (cr_all_k (K := K)) (by rfl) T.b_all (by decide +kernel) (pa_cons (pe_lc (own := [("sign", 1)]) (g := gName 1) (by rfl) sc.nd (pi_str (pv 0)) (blkOk_by (N := ["value", "sign"]) (sc := defScope s_is_layer) (own := [("sign", 1)]) (by decide +kernel)) (fun _ _ _ _ _ => (pg_name (i := 1) sc.nd rfl (Or.inl rfl))) (fun _ _ _ _ _ => pts_nil) (fun _ _ _ _ _ => (pe_or (pe_cmpR op_eq (pv 1) (pe_glob (v := .str (S [45])) rfl gc_DASH ⟨_, rfl⟩) (nomark _)) (pe_one (pe_cmpR op_inS (pv 1) (pe_glob (v := .str (S alls)) rfl gc_MARKS ⟨_, rfl⟩) rfl))))) pa_nil)))))), ?_⟩
  refine' a_when (K := K) (b := !true) (et_nt (et2 (er_cb (era_cons (er_v rfl) (era_cons er_c era_nil)) (rc_isi_str (by decide +kernel))))) ?g1 ?g2
  case g1 =>
    intro hb
    cases hb
  case g2 =>
    intro _ H1 e1
    refine' a_when (K := K) (b := !(decide ((1 : Int) ≤ (a.length : Int)) && decide ((a.length : Int) ≤ 30))) (et_nt (et1 (er_chain er_c (er_cb (era_cons (er_v rfl) era_nil) (rc_lenC (z := a) (by omega))) ro_I0 (fun _ => er_c) fun _ => ro_I0))) ?g3 ?g4
    case g3 =>
      intro hb H2 e2
      refine a_rete (K := K) er_c ?_ (e1.trans e2) hk
      have e0 : layerOk a = false := by
        unfold layerOk
        have q : (decide (1 ≤ a.length) && decide (a.length ≤ 30)) = false := by
          simp at hb ⊢
          omega
        rw [q]
        rfl
      show Dd.b false = Dd.b (layerOk a)
      rw [e0]
    case g4 =>
      intro hb H2 e2
      refine' a_rete (K := K) (er_cb (era_cons (Er.to (c_lcS' (K := K) (z := a) (vs := [1]) (fun c => V.bl (signOk c)) (er_v rfl) (by omega) (fun _ => rfl) ?g5) ?g6) era_nil) rc_allBN) ?g7 (e1.trans e2) hk
      case g5 =>
        intro i c H3 e3 hi
        refine Er.to (er_orV (a := decide ([c] = [45])) (b := decide (c ∈ alls)) (er_op (er_v rfl) er_c ro_eqC) fun _ => er_op (d1 := .s (S [c])) (d2 := .s (S alls)) (er_v rfl) er_c (ro_inS (c := c))) ?_
        show Dd.b _ = Dd.b (signOk c)
        unfold signOk
        simp
      case g6 =>
        show Dd.n (a.map (V.bl ∘ signOk)) = Dd.n ((a.map signOk).map V.bl)
        rw [List.map_map]
      show Dd.b ((a.map signOk).all id) = Dd.b (layerOk a)
      unfold layerOk
      have q : (decide (1 ≤ a.length) && decide (a.length ≤ 30)) = true := by
        simp at hb ⊢
        omega
      rw [q, List.all_map]
      rfl
end
end Mi

set_option maxHeartbeats 4000000
namespace Mi
open PySem PySem.Spec PyProof.Rows L2 Evl
local macro_rules | `(tactic| walk_at "side") => `(tactic| (first | assumption | omega | exact rfl | decide | (simp only [List.length_cons, List.length_nil, List.length_map, List.length_append, List.length_replicate] <;> omega)))
local macro_rules | `(tactic| walk_at "ro") => `(tactic| (first
  | with_reducible exact ro_I0
  | with_reducible exact ro_1018
  | with_reducible exact ro_neC
  | with_reducible exact ro_eqC
  | with_reducible exact ro_neI
  | with_reducible exact ro_eqI
  | with_reducible exact ro_neB
  | with_reducible exact ro_eqB
  | ((with_reducible apply ro_mod); (walk_at "side"))
  | ((with_reducible apply ro_div) <;> (walk_at "side"))
  | ((with_reducible apply ro_divW) <;> (walk_at "side"))
  | with_reducible exact ro_1012
  | with_reducible exact ro_1015
  | ((with_reducible apply ro_mulL) <;> (walk_at "side"))
  | ((with_reducible apply ro_mulR) <;> (walk_at "side"))
  | ((with_reducible apply ro_addC); (walk_at "side"))
  | ((with_reducible apply ro_ixC) <;> (walk_at "side"))
  | ((with_reducible apply ro_ixI) <;> (walk_at "side"))
  | ((with_reducible apply ro_ixIN) <;> (walk_at "side"))
  | ((with_reducible apply ro_ixT2) <;> (walk_at "side"))
  | ((with_reducible apply ro_ixG) <;> (walk_at "side"))
  | ((with_reducible apply ro_eq); exact rfl)
  | ((with_reducible apply ro_ne); exact rfl)
  | with_reducible exact ro_isN
  | with_reducible exact ro_notN
  | with_reducible exact ro_eqL
  | with_reducible exact ro_neL
  | with_reducible exact ro_eqU
  | ((with_reducible apply ro_cat); (walk_at "side"))
  | with_reducible exact ro_inLi
  | with_reducible exact ro_inNi
  | with_reducible exact ro_inUi
  | ((with_reducible apply ro_inL) <;> (walk_at "side"))
  | ((with_reducible apply ro_inN) <;> (walk_at "side"))
  | ((with_reducible apply ro_inU) <;> (walk_at "side"))))
local macro_rules | `(tactic| walk_at "rc") => `(tactic| (first
  | with_reducible exact rc_int
  | with_reducible exact rc_intB
  | with_reducible exact rc_max2
  | ((with_reducible apply rc_lenC); (walk_at "side"))
  | with_reducible exact rc_lenI
  | with_reducible exact rc_lenT
  | with_reducible exact rc_lenIN
  | with_reducible exact rc_lenTN
  | with_reducible exact rc_lenL
  | with_reducible exact rc_lenN
  | with_reducible exact rc_lenU
  | with_reducible exact rc_listL
  | with_reducible exact rc_listU
  | with_reducible exact rc_tupL
  | with_reducible exact rc_tupN
  | ((with_reducible apply rc_isi_int); decide +kernel)
  | ((with_reducible apply rc_isi_str); decide +kernel)
  | ((with_reducible apply rc_isi_bl); decide +kernel)
  | ((with_reducible apply rc_isi_non); decide +kernel)
  | ((with_reducible apply rc_isi_u); decide +kernel)
  | ((with_reducible apply rc_isi_l); decide +kernel)))
local macro_rules | `(tactic| walk_at "er") => `(tactic| (first
  | ((with_reducible apply er_var); (exact rfl); assumption)
  | ((with_reducible apply er_v); exact rfl)
  | with_reducible exact er_c
  | ((with_reducible apply er_pick); (walk_at "er"); (walk_at "er"); (walk_at "er"))
  | ((with_reducible apply er_op); (walk_at "er"); (walk_at "er"); (walk_at "ro"))
  | ((with_reducible apply er_cb); (walk_at "era"); (walk_at "rc"))
  | ((with_reducible apply er_lst'); (walk_at "era"); (exact rfl); (walk_at "side"))
  | ((with_reducible apply er_tup'); (walk_at "era"); (exact rfl); (walk_at "side"))
  | ((with_reducible apply er_notV); (walk_at "er"))
  | ((with_reducible apply er_andV); (walk_at "er"); (intro _; (walk_at "er")))
  | ((with_reducible apply er_orV); (walk_at "er"); (intro _; (walk_at "er")))
  | ((with_reducible apply er_ite); (walk_at "et"); (intro _; (walk_at "er")); (intro _; (walk_at "er")))))
local macro_rules | `(tactic| walk_at "era") => `(tactic| (first
  | with_reducible exact era_nil
  | ((with_reducible apply era_cons); (walk_at "er"); (walk_at "era"))))
local macro_rules | `(tactic| walk_at "et") => `(tactic| (first
  | ((with_reducible apply et_an); (walk_at "et"); (intro _; (walk_at "et")))
  | ((with_reducible apply et_orr); (walk_at "et"); (intro _; (walk_at "et")))
  | ((with_reducible apply et_nt); (walk_at "et"))
  | ((with_reducible apply et1); (walk_at "er"))
  | ((with_reducible apply et2); (walk_at "er"))))

section
variable {P : Program} {w : World} {K : PySem.W.Frag} {mg : Str → Option Value} {base : Heap}

abbrev s_cells_of : Stmt := topS 7
theorem sc_cells_of : FnScope ["one", "cell", "sign"] ["one"] (defScope s_cells_of) := ⟨rfl, rfl, rfl, by decide +kernel, rfl, by decide +kernel, by decide +kernel⟩

def cellsM (a : List Nat) : List Int := (a.zipIdx.filter fun p => !decide (p.1 = 45)).map fun p => ((p.2 : Nat) : Int)
abbrev sp_cells (K : PySem.W.Frag) : Sp := spR K (fun a : List Nat => a.length ≤ 1000) (fun a => [.s (S a)]) fun a => .u (vis (cellsM a))
theorem has_cells_of (T : Txt K mg) (h : At K mg "cells_of" s_cells_of ["one"]) : Has P w K mg base 1 "cells_of" ["one"] (sp_cells K) := by
  refine h.hasR sc_cells_of (fun _ => rfl) fun f cdv A outer s H a vs Q E hr hp hv hk => ?_
  rcases hv with _ | ⟨rfl, _ | _⟩
  have sc := sc_cells_of
  obtain ⟨_, gc_DASH⟩ := T.g_DASH
  replace hp : a.length ≤ 1000 := hp
  refine ⟨_, (pss_one (ps_ret (pe_callTy (cr_tuple_k (K := K)) (by rfl) T.b_tuple (by decide +kernel) (pa_cons (pe_lc (own := [("cell", 1), ("sign", 2)]) (g := gTup K 2 (gCons (gName 1) (gCons (gName 2) gNil))) (by rfl) sc.nd (pi_enumS (by rfl) T.b_enumerate (pa_cons (pv 0) pa_nil)) (blkOk_by (N := ["one", "cell", "sign"]) (sc := defScope s_cells_of) (own := [("cell", 1), ("sign", 2)]) (by decide +kernel)) (fun _ _ _ _ _ => (pg_tup rfl (pgs_cons (pg_name (i := 1) sc.nd rfl (Or.inl rfl)) (pgs_cons (pg_name (i := 2) sc.nd rfl (Or.inl rfl)) pgs_nil)))) (fun _ _ _ _ _ => (pts_one (pt_cmpR op_ne (pv 2) (pe_glob (v := .str (S [45])) rfl gc_DASH ⟨_, rfl⟩) (nomark _)))) (fun _ _ _ _ _ => (pv 1))) pa_nil)))), ?_⟩
  refine' a_rete (K := K) ?g1 rfl (Ex.refl H) hk
  refine er_cb (K := K) (ds := [.n (vis (cellsM a))]) (era_cons (Er.to (c_lcE (K := K) (z := a) (vs := [1, 2]) (fun p => !decide (p.1 = 45)) (fun p => .int ((p.2 : Nat) : Int)) ?g2 (by omega) (fun _ _ => rfl) ?g3 ?g4) ?g5) era_nil) rc_tupN
  case g2 => walk_at "era"
  case g3 =>
    intro i c H1 e h1
    refine' Et.to (K := K) ?g6 ?g7
    case g6 => walk_at "et"
    simp
  case g4 =>
    intro i c H1 e h1 _
    walk_at "er"
  case g5 => rw [vis, cellsM, List.map_map]; rfl

abbrev s_is_name : Stmt := topS 23
theorem sc_is_name : FnScope ["value", "sign"] ["value"] (defScope s_is_name) := ⟨rfl, rfl, rfl, by decide +kernel, rfl, by decide +kernel, by decide +kernel⟩

def nameSign (c : Nat) : Bool := decide (c ∈ letters) || decide (c ∈ digits)
def nameOk (l : List Nat) : Bool := (decide (1 ≤ l.length) && decide (l.length ≤ 8)) && (decide (l.getD 0 0 ∈ letters) && l.all nameSign)
abbrev sp_is_name (K : PySem.W.Frag) : Sp := spR K (fun a : List Nat => a.length ≤ 1000) (fun a => [.s (S a)]) fun a => .b (nameOk a)
theorem has_is_name (T : Txt K mg) (h : At K mg "is_name" s_is_name ["value"]) : Has P w K mg base 1 "is_name" ["value"] (sp_is_name K) := by
  refine h.hasR sc_is_name (fun _ => rfl) fun f cdv A outer s H a vs Q E hr hp hv hk => ?_
  replace hp : a.length ≤ 1000 := hp
  rcases hv with _ | ⟨rfl, _ | _⟩
  have sc := sc_is_name
  obtain ⟨_, gc_LETTERS⟩ := T.g_LETTERS
  obtain ⟨_, gc_DIGITS⟩ := T.g_DIGITS
  obtain ⟨_, gc_LONGEST_NAME⟩ := T.g_LONGEST_NAME
  refine ⟨_, (pss_cons (ps_if (pt_not (pt_val (pe_callB (cr_isi_k (K := K)) (by rfl) T.b_isinstance (by decide +kernel) (pa_cons (pv 0) (pa_cons (pe_bltn (v := .ty "str") (by rfl) T.b_str (by decide +kernel) rfl) pa_nil))))) (pss_one (ps_ret pe_bl)) pss_nil)
    (pss_cons (ps_if (pt_not (pt_chain op_le op_le pe_int (pe_callB cr_lenStr (by rfl) T.b_len (by decide +kernel) (pa_cons (pv 0) pa_nil)) (pe_glob (v := .int 8) rfl gc_LONGEST_NAME ⟨_, rfl⟩))) (pss_one (ps_ret pe_bl)) pss_nil)
    (pss_one (ps_ret (pe_and (pe_cmpR op_inS (pe_ix ix_str (pv 0) pe_int (fun _ _ => rfl)) (pe_glob (v := .str (S letters)) rfl gc_LETTERS ⟨_, rfl⟩) rfl) (pe_one (pe_callB (cr_all_k (K := K)) (by rfl) T.b_all (by decide +kernel) (pa_cons (pe_lc (own := [("sign", 1)]) (g := gName 1) (by rfl) sc.nd (pi_str (pv 0)) (blkOk_by (N := ["value", "sign"]) (sc := defScope s_is_name) (own := [("sign", 1)]) (by decide +kernel)) (fun _ _ _ _ _ => (pg_name (i := 1) sc.nd rfl (Or.inl rfl))) (fun _ _ _ _ _ => pts_nil) (fun _ _ _ _ _ => (pe_or (pe_cmpR op_inS (pv 1) (pe_glob (v := .str (S letters)) rfl gc_LETTERS ⟨_, rfl⟩) rfl) (pe_one (pe_cmpR op_inS (pv 1) (pe_glob (v := .str (S digits)) rfl gc_DIGITS ⟨_, rfl⟩) rfl))))) pa_nil)))))))), ?_⟩
  refine' a_when (K := K) (b := !true) (et_nt (et2 (er_cb (era_cons (er_v rfl) (era_cons er_c era_nil)) (rc_isi_str (by decide +kernel))))) ?g1 ?g2
  case g1 =>
    intro hb
    cases hb
  case g2 =>
    intro _ H1 e1
    refine' a_when (K := K) (b := !(decide ((1 : Int) ≤ (a.length : Int)) && decide ((a.length : Int) ≤ 8))) (et_nt (et1 (er_chain er_c (er_cb (era_cons (er_v rfl) era_nil) (rc_lenC (z := a) (by omega))) ro_I0 (fun _ => er_c) fun _ => ro_I0))) ?g3 ?g4
    case g3 =>
      intro hb H2 e2
      refine a_rete (K := K) er_c ?_ (e1.trans e2) hk
      have e0 : nameOk a = false := by
        unfold nameOk
        have q : (decide (1 ≤ a.length) && decide (a.length ≤ 8)) = false := by
          simp at hb ⊢
          omega
        rw [q]
        rfl
      show Dd.b false = Dd.b (nameOk a)
      rw [e0]
    case g4 =>
      intro hb H2 e2
      have q : (decide (1 ≤ a.length) && decide (a.length ≤ 8)) = true := by
        simp at hb ⊢
        omega
      have q1 : 1 ≤ a.length := by
        rw [Bool.and_eq_true] at q
        exact of_decide_eq_true q.1
      refine' a_rete (K := K) (er_andV (a := decide (a.getD 0 0 ∈ letters)) (b := (a.map nameSign).all id) (er_op (d1 := .s (S [a.getD 0 0])) (d2 := .s (S letters)) (er_sign (n := 0) (er_v rfl) er_c (by omega) (by omega)) er_c (ro_inS (c := a.getD 0 0))) fun _ => er_cb (era_cons (Er.to (c_lcS' (K := K) (z := a) (vs := [1]) (fun c => V.bl (nameSign c)) (er_v rfl) (by omega) (fun _ => rfl) ?g5) ?g6) era_nil) rc_allBN) ?g7 (e1.trans e2) hk
      case g5 =>
        intro i c H3 e3 hi
        exact er_orV (a := decide (c ∈ letters)) (b := decide (c ∈ digits)) (er_op (d1 := .s (S [c])) (d2 := .s (S letters)) (er_v rfl) er_c (ro_inS (c := c))) fun _ => er_op (d1 := .s (S [c])) (d2 := .s (S digits)) (er_v rfl) er_c (ro_inS (c := c))
      case g6 =>
        show Dd.n (a.map (V.bl ∘ nameSign)) = Dd.n ((a.map nameSign).map V.bl)
        rw [List.map_map]
      show Dd.b (decide (a.getD 0 0 ∈ letters) && (a.map nameSign).all id) = Dd.b (nameOk a)
      unfold nameOk
      rw [q, List.all_map]
      rfl

abbrev s_is_stamp : Stmt := topS 24
theorem sc_is_stamp : FnScope ["value", "size"] ["value", "size"] (defScope s_is_stamp) := ⟨rfl, rfl, rfl, by decide +kernel, rfl, by decide +kernel, by decide +kernel⟩

def stampOk (l : List Nat) (size : Nat) : Bool := layerOk l && (decide ((l.length : Int) = (size : Int)) && decide (0 < ((vis (cellsM l)).length : Int)))
abbrev sp_is_stamp (K : PySem.W.Frag) : Sp := spR K (fun a : List Nat × Nat => a.1.length ≤ 1000) (fun a => [.s (S a.1), .i (a.2 : Int)]) fun a => .b (stampOk a.1 a.2)
theorem has_is_stamp (T : Txt K mg) (h : At K mg "is_stamp" s_is_stamp ["value", "size"]) (C_is_layer : Has P w K mg base 1 "is_layer" ["value"] (sp_is_layer K)) (C_cells_of : Has P w K mg base 1 "cells_of" ["one"] (sp_cells K)) : Has P w K mg base 2 "is_stamp" ["value", "size"] (sp_is_stamp K) := by
  refine h.hasR sc_is_stamp (fun _ => rfl) fun f cdv A outer s H a vs Q E hr hp hv hk => ?_
  obtain ⟨l, size⟩ := a
  replace hp : l.length ≤ 1000 := hp
  rcases hv with _ | ⟨rfl, _ | ⟨rfl, _ | _⟩⟩
  have sc := sc_is_stamp
  refine ⟨_, (pss_one (ps_ret (pe_and (pe_callH C_is_layer (hr.mono (by decide)) (pa_cons (pv 0) pa_nil)) (pe_and (pe_cmpR op_eq (pe_callB cr_lenStr (by rfl) T.b_len (by decide +kernel) (pa_cons (pv 0) pa_nil)) (pv 1) (nomark _)) (pe_one (pe_cmpR op_gt (pe_callB (cr_len_k (K := K)) (by rfl) T.b_len (by decide +kernel) (pa_cons (pe_callH C_cells_of (hr.mono (by decide)) (pa_cons (pv 0) pa_nil)) pa_nil)) pe_int (nomark _))))))), ?_⟩
  exact a_rete (K := K) (er_andV (er_call (K := K) l (era_cons (er_v rfl) era_nil) rfl hp) fun _ => er_andV (er_op (er_cb (era_cons (er_v rfl) era_nil) (rc_lenC (z := l) (by omega))) (er_v rfl) ro_eqI) fun _ => er_op (er_cb (era_cons (er_call (K := K) l (era_cons (er_v rfl) era_nil) rfl hp) era_nil) rc_lenU) er_c ro_I0) rfl (Ex.refl H) hk

end
end Mi

set_option maxHeartbeats 4000000
namespace Mi
open PySem PySem.Spec PyProof.Rows L2 Evl
local macro_rules | `(tactic| walk_at "side") => `(tactic| (first | assumption | omega | exact rfl | decide | (simp only [List.length_cons, List.length_nil, List.length_map, List.length_append, List.length_replicate] <;> omega)))
local macro_rules | `(tactic| walk_at "ro") => `(tactic| (first
  | with_reducible exact ro_I0
  | with_reducible exact ro_1018
  | with_reducible exact ro_neC
  | with_reducible exact ro_eqC
  | with_reducible exact ro_neI
  | with_reducible exact ro_eqI
  | with_reducible exact ro_neB
  | with_reducible exact ro_eqB
  | ((with_reducible apply ro_mod); (walk_at "side"))
  | ((with_reducible apply ro_div) <;> (walk_at "side"))
  | ((with_reducible apply ro_divW) <;> (walk_at "side"))
  | with_reducible exact ro_1012
  | with_reducible exact ro_1015
  | ((with_reducible apply ro_mulL) <;> (walk_at "side"))
  | ((with_reducible apply ro_mulR) <;> (walk_at "side"))
  | ((with_reducible apply ro_addC); (walk_at "side"))
  | ((with_reducible apply ro_ixC) <;> (walk_at "side"))
  | ((with_reducible apply ro_ixI) <;> (walk_at "side"))
  | ((with_reducible apply ro_ixIN) <;> (walk_at "side"))
  | ((with_reducible apply ro_ixT2) <;> (walk_at "side"))
  | ((with_reducible apply ro_ixG) <;> (walk_at "side"))
  | ((with_reducible apply ro_eq); exact rfl)
  | ((with_reducible apply ro_ne); exact rfl)
  | with_reducible exact ro_isN
  | with_reducible exact ro_notN
  | with_reducible exact ro_eqL
  | with_reducible exact ro_neL
  | with_reducible exact ro_eqU
  | ((with_reducible apply ro_cat); (walk_at "side"))
  | with_reducible exact ro_inLi
  | with_reducible exact ro_inNi
  | with_reducible exact ro_inUi
  | ((with_reducible apply ro_inL) <;> (walk_at "side"))
  | ((with_reducible apply ro_inN) <;> (walk_at "side"))
  | ((with_reducible apply ro_inU) <;> (walk_at "side"))))
local macro_rules | `(tactic| walk_at "rc") => `(tactic| (first
  | with_reducible exact rc_int
  | with_reducible exact rc_intB
  | with_reducible exact rc_max2
  | ((with_reducible apply rc_lenC); (walk_at "side"))
  | with_reducible exact rc_lenI
  | with_reducible exact rc_lenT
  | with_reducible exact rc_lenIN
  | with_reducible exact rc_lenTN
  | with_reducible exact rc_lenL
  | with_reducible exact rc_lenN
  | with_reducible exact rc_lenU
  | with_reducible exact rc_listL
  | with_reducible exact rc_listU
  | with_reducible exact rc_tupL
  | with_reducible exact rc_tupN
  | ((with_reducible apply rc_isi_int); decide +kernel)
  | ((with_reducible apply rc_isi_str); decide +kernel)
  | ((with_reducible apply rc_isi_bl); decide +kernel)
  | ((with_reducible apply rc_isi_non); decide +kernel)
  | ((with_reducible apply rc_isi_u); decide +kernel)
  | ((with_reducible apply rc_isi_l); decide +kernel)))
local macro_rules | `(tactic| walk_at "er") => `(tactic| (first
  | ((with_reducible apply er_var); (exact rfl); assumption)
  | ((with_reducible apply er_v); exact rfl)
  | with_reducible exact er_c
  | ((with_reducible apply er_pick); (walk_at "er"); (walk_at "er"); (walk_at "er"))
  | ((with_reducible apply er_op); (walk_at "er"); (walk_at "er"); (walk_at "ro"))
  | ((with_reducible apply er_cb); (walk_at "era"); (walk_at "rc"))
  | ((with_reducible apply er_lst'); (walk_at "era"); (exact rfl); (walk_at "side"))
  | ((with_reducible apply er_tup'); (walk_at "era"); (exact rfl); (walk_at "side"))
  | ((with_reducible apply er_notV); (walk_at "er"))
  | ((with_reducible apply er_andV); (walk_at "er"); (intro _; (walk_at "er")))
  | ((with_reducible apply er_orV); (walk_at "er"); (intro _; (walk_at "er")))
  | ((with_reducible apply er_ite); (walk_at "et"); (intro _; (walk_at "er")); (intro _; (walk_at "er")))))
local macro_rules | `(tactic| walk_at "era") => `(tactic| (first
  | with_reducible exact era_nil
  | ((with_reducible apply era_cons); (walk_at "er"); (walk_at "era"))))
local macro_rules | `(tactic| walk_at "et") => `(tactic| (first
  | ((with_reducible apply et_an); (walk_at "et"); (intro _; (walk_at "et")))
  | ((with_reducible apply et_orr); (walk_at "et"); (intro _; (walk_at "et")))
  | ((with_reducible apply et_nt); (walk_at "et"))
  | ((with_reducible apply et1); (walk_at "er"))
  | ((with_reducible apply et2); (walk_at "er"))))

section
variable {P : Program} {w : World} {K : PySem.W.Frag} {mg : Str → Option Value} {base : Heap}

theorem kit2 {n m1 m2 : String} {b1 b2 : Bool} (h1 : kitB n m1 = some b1) (h2 : kitB n m2 = some b2) : PySem.W.kitAny K (.type n) [.type m1, .type m2] = some (b1 || b2) := by
  have q1 : PySem.W.kitOne K (.type n) (.type m1) = some b1 := kit_ty h1
  have q2 : PySem.W.kitOne K (.type n) (.type m2) = some b2 := kit_ty h2
  unfold PySem.W.kitAny
  rw [q1]
  cases b1 with
  | true => rfl
  | false =>
    show PySem.W.kitAny K (.type n) [.type m2] = some b2
    unfold PySem.W.kitAny
    rw [q2]
    cases b2 <;> rfl
abbrev s_as_tuples : Stmt := topS 12
theorem sc_as_tuples : FnScope ["value", "item"] ["value"] (defScope s_as_tuples) := ⟨rfl, rfl, rfl, by decide +kernel, rfl, by decide +kernel, by decide +kernel⟩

abbrev sp_tup (K : PySem.W.Frag) (k : Nat) : Sp := spF K (fun d : Dd => okD d ∧ depD d < k) (fun d => [d]) tupD
theorem has_as_tuples (T : Txt K mg) (h : At K mg "as_tuples" s_as_tuples ["value"]) : ∀ k, Has P w K mg base k "as_tuples" ["value"] (sp_tup K k)
  | 0 => h.none fun d hp => by
    have := hp.2
    omega
  | k + 1 => by
    have C_as_tuples := has_as_tuples T h k
    refine h.hasF sc_as_tuples (fun _ => rfl) fun f cdv Ar outer s G A d vs Q E hr hp hA hv hk => ?_
    obtain ⟨hok, hdep⟩ := hp
    rcases hv with _ | ⟨hx, _ | _⟩
    rename_i x
    have sc := sc_as_tuples
    refine ⟨_, (pss_cons (ps_if (pt_val (pe_callB (cr_isiT_k (K := K)) (by rfl) T.b_isinstance (by decide +kernel) (pa_cons (pv 0) (pa_cons (pe_tup (pa_cons (pe_bltn (v := .ty "list") (by rfl) T.b_list (by decide +kernel) rfl) (pa_cons (pe_bltn (v := .ty "tuple") (by rfl) T.b_tuple (by decide +kernel) rfl) pa_nil))) pa_nil)))) (pss_one (ps_ret (pe_callTy (cr_tuple_k (K := K)) (by rfl) T.b_tuple (by decide +kernel) (pa_cons (pe_lc (own := [("item", 1)]) (g := gName 1) (by rfl) sc.nd (pi_seqV (K := K) (pv 0)) (blkOk_by (N := ["value", "item"]) (sc := defScope s_as_tuples) (own := [("item", 1)]) (by decide +kernel)) (fun _ _ _ _ _ => (pg_name (i := 1) sc.nd rfl (Or.inl rfl))) (fun _ _ _ _ _ => pts_nil) (fun _ _ _ _ _ => (pe_callH C_as_tuples (hr.mono (Nat.le_refl _)) (pa_cons (pv 1) pa_nil)))) pa_nil)))) pss_nil)
    (pss_one (ps_ret (pv 0)))), ?_⟩
    have seq : ∀ ds : List Dd, okL ds → depL ds < k → ds.length ≤ 1000 → Itf K (iSeqV K 0) [some x, none] G (ds.map id) → ∀ A1, Ex A A1 → (∀ v G' A', Step G A G' A' → Is K G' (.U (tupL ds)) v → Q v A') → ∀ N, tRet (tCB (rTupS K) (tCons (tLc (iSeqV K 0) (gName 1) tYes (tCall (sp_tup K k) [] E0 (tCons (tVar 1) tNil)) [1]) tNil)) { nx := N, rt := Q } [some x, none] A1 := by
      intro ds ho hd hz hit A1 e1 hk1 N
      refine s_ret (K := K) (G := G) (d' := .U (tupL ds)) (ef_cb (efa_cons (Ef.to (ef_lc (K := K) (its := ds) (inj := id) (vs := [1]) (fun _ => true) tupD hit (by omega) ?_) ?_) efa_nil) rf_tupN) (hA.trans e1) rfl fun v G' A' st z => hk1 v G' A' ((Step.on hA e1).trans st) z
      · intro i d' v G' A' eg ea hd' hv'
        have e0 := depL_at hd'
        exact ⟨[some x, some v], fun Q q => q, rfl, fun H2 e Q q => q H2 (Ex.refl _), fun _ => ef_call d' (efa_cons (ef_var rfl hv') efa_nil) rfl ⟨okL_at ho hd', by omega⟩⟩
      · rw [filt_true, tupL_map]
    match d, hok, hdep, hx, hk with
    | .L ds, hok, hdep, hx, hk =>
      have hd : depL ds + 1 < k + 1 := hdep
      exact a_when (K := K) (b := true || false) (et2 (er_isiT (.type "list") (er_var rfl (hx.mono hA)) (fun _ _ z => ty_Ld z) (kit2 (by decide +kernel) (by decide +kernel)))) (fun _ A1 e1 => seq ds hok.1 (by omega) hok.2 (by rw [List.map_id]; exact if_seqL rfl hx) A1 e1 hk _) fun hb => by cases hb
    | .U ds, hok, hdep, hx, hk =>
      have hd : depL ds + 1 < k + 1 := hdep
      exact a_when (K := K) (b := false || true) (et2 (er_isiT (.type "tuple") (er_var rfl (hx.mono hA)) (fun _ _ z => ty_Ud z) (kit2 (by decide +kernel) (by decide +kernel)))) (fun _ A1 e1 => seq ds hok.1 (by omega) hok.2 (by rw [List.map_id]; exact if_seqU rfl hx) A1 e1 hk _) fun hb => by cases hb
    | .v (.str z), hok, hdep, hx, hk =>
      exact a_when (K := K) (b := false || false) (et2 (er_isiT (.type "str") (er_var rfl (hx.mono hA)) (fun _ _ e => by rw [show _ = V.str z from e]; exact .base (.str z)) (kit2 (by decide +kernel) (by decide +kernel)))) (fun hb => by cases hb) fun _ A1 e1 => s_ret (K := K) (G := G) (ef_var rfl hx) (hA.trans e1) rfl fun v G' A' st q => hk v G' A' ((Step.on hA e1).trans st) q
    | .v (.int z), hok, hdep, hx, hk =>
      exact a_when (K := K) (b := false || false) (et2 (er_isiT (.type "int") (er_var rfl (hx.mono hA)) (fun _ _ e => by rw [show _ = V.int z from e]; exact .base (.int z)) (kit2 (by decide +kernel) (by decide +kernel)))) (fun hb => by cases hb) fun _ A1 e1 => s_ret (K := K) (G := G) (ef_var rfl hx) (hA.trans e1) rfl fun v G' A' st q => hk v G' A' ((Step.on hA e1).trans st) q
end
end Mi

set_option maxHeartbeats 4000000
namespace Mi
open PySem PySem.Spec PyProof.Rows L2 Evl
local macro_rules | `(tactic| walk_at "side") => `(tactic| (first | assumption | omega | exact rfl | decide | (simp only [List.length_cons, List.length_nil, List.length_map, List.length_append, List.length_replicate] <;> omega)))
local macro_rules | `(tactic| walk_at "ro") => `(tactic| (first
  | with_reducible exact ro_I0
  | with_reducible exact ro_1018
  | with_reducible exact ro_neC
  | with_reducible exact ro_eqC
  | with_reducible exact ro_neI
  | with_reducible exact ro_eqI
  | with_reducible exact ro_neB
  | with_reducible exact ro_eqB
  | ((with_reducible apply ro_mod); (walk_at "side"))
  | ((with_reducible apply ro_div) <;> (walk_at "side"))
  | ((with_reducible apply ro_divW) <;> (walk_at "side"))
  | with_reducible exact ro_1012
  | with_reducible exact ro_1015
  | ((with_reducible apply ro_mulL) <;> (walk_at "side"))
  | ((with_reducible apply ro_mulR) <;> (walk_at "side"))
  | ((with_reducible apply ro_addC); (walk_at "side"))
  | ((with_reducible apply ro_ixC) <;> (walk_at "side"))
  | ((with_reducible apply ro_ixI) <;> (walk_at "side"))
  | ((with_reducible apply ro_ixIN) <;> (walk_at "side"))
  | ((with_reducible apply ro_ixT2) <;> (walk_at "side"))
  | ((with_reducible apply ro_ixG) <;> (walk_at "side"))
  | ((with_reducible apply ro_eq); exact rfl)
  | ((with_reducible apply ro_ne); exact rfl)
  | with_reducible exact ro_isN
  | with_reducible exact ro_notN
  | with_reducible exact ro_eqL
  | with_reducible exact ro_neL
  | with_reducible exact ro_eqU
  | ((with_reducible apply ro_cat); (walk_at "side"))
  | with_reducible exact ro_inLi
  | with_reducible exact ro_inNi
  | with_reducible exact ro_inUi
  | ((with_reducible apply ro_inL) <;> (walk_at "side"))
  | ((with_reducible apply ro_inN) <;> (walk_at "side"))
  | ((with_reducible apply ro_inU) <;> (walk_at "side"))))
local macro_rules | `(tactic| walk_at "rc") => `(tactic| (first
  | with_reducible exact rc_int
  | with_reducible exact rc_intB
  | with_reducible exact rc_max2
  | ((with_reducible apply rc_lenC); (walk_at "side"))
  | with_reducible exact rc_lenI
  | with_reducible exact rc_lenT
  | with_reducible exact rc_lenIN
  | with_reducible exact rc_lenTN
  | with_reducible exact rc_lenL
  | with_reducible exact rc_lenN
  | with_reducible exact rc_lenU
  | with_reducible exact rc_listL
  | with_reducible exact rc_listU
  | with_reducible exact rc_tupL
  | with_reducible exact rc_tupN
  | ((with_reducible apply rc_isi_int); decide +kernel)
  | ((with_reducible apply rc_isi_str); decide +kernel)
  | ((with_reducible apply rc_isi_bl); decide +kernel)
  | ((with_reducible apply rc_isi_non); decide +kernel)
  | ((with_reducible apply rc_isi_u); decide +kernel)
  | ((with_reducible apply rc_isi_l); decide +kernel)))
local macro_rules | `(tactic| walk_at "er") => `(tactic| (first
  | ((with_reducible apply er_var); (exact rfl); assumption)
  | ((with_reducible apply er_v); exact rfl)
  | with_reducible exact er_c
  | ((with_reducible apply er_pick); (walk_at "er"); (walk_at "er"); (walk_at "er"))
  | ((with_reducible apply er_op); (walk_at "er"); (walk_at "er"); (walk_at "ro"))
  | ((with_reducible apply er_cb); (walk_at "era"); (walk_at "rc"))
  | ((with_reducible apply er_lst'); (walk_at "era"); (exact rfl); (walk_at "side"))
  | ((with_reducible apply er_tup'); (walk_at "era"); (exact rfl); (walk_at "side"))
  | ((with_reducible apply er_notV); (walk_at "er"))
  | ((with_reducible apply er_andV); (walk_at "er"); (intro _; (walk_at "er")))
  | ((with_reducible apply er_orV); (walk_at "er"); (intro _; (walk_at "er")))
  | ((with_reducible apply er_ite); (walk_at "et"); (intro _; (walk_at "er")); (intro _; (walk_at "er")))))
local macro_rules | `(tactic| walk_at "era") => `(tactic| (first
  | with_reducible exact era_nil
  | ((with_reducible apply era_cons); (walk_at "er"); (walk_at "era"))))
local macro_rules | `(tactic| walk_at "et") => `(tactic| (first
  | ((with_reducible apply et_an); (walk_at "et"); (intro _; (walk_at "et")))
  | ((with_reducible apply et_orr); (walk_at "et"); (intro _; (walk_at "et")))
  | ((with_reducible apply et_nt); (walk_at "et"))
  | ((with_reducible apply et1); (walk_at "er"))
  | ((with_reducible apply et2); (walk_at "er"))))

section
variable {P : Program} {w : World} {K : PySem.W.Frag} {mg : Str → Option Value} {base : Heap}
/-! ### check_pairs -/
abbrev s_check_pairs : Stmt := topS 25
theorem sc_check_pairs : FnScope ["pairs", "fitting", "earlier", "index", "name", "_"] ["pairs", "fitting"] (defScope s_check_pairs) := ⟨rfl, rfl, rfl, by decide +kernel, rfl, by decide +kernel, by decide +kernel⟩

structure PairsOk (n : Nat) (sts : List (List Nat × List Nat)) : Prop where
  nm : ∀ p ∈ sts, nameOk p.1 = true ∧ p.1.length ≤ 1000
  st : ∀ p ∈ sts, stampOk p.2 n = true ∧ p.2.length ≤ 1000
  di : (sts.map (·.1)).Nodup
  few : sts.length ≤ 1000
theorem not_before {sts : List (List Nat × List Nat)} {i : Nat} {p : List Nat × List Nat} (hd : (sts.map (·.1)).Nodup) (h : sts[i]? = some p) : inV (.str (S p.1)) ((sts.take i).map fun q => V.str (S q.1)) = false := by
  unfold inV
  rw [List.any_eq_false]
  intro x hx
  obtain ⟨q, hq, rfl⟩ := List.mem_map.mp hx
  obtain ⟨j, hj, hj2⟩ := List.getElem_of_mem hq
  rw [List.length_take] at hj
  rw [List.getElem_take] at hj2
  have hi := (List.getElem?_eq_some_iff.mp h)
  obtain ⟨hi1, hi2⟩ := hi
  intro e
  have e2 : q.1 = p.1 := by
    have : S q.1 = S p.1 := by simpa [eqV] using e
    exact S_inj this
  have hp := List.pairwise_iff_getElem.mp hd j i (by rw [List.length_map]; omega) (by rw [List.length_map]; exact hi1) (by omega)
  apply hp
  rw [List.getElem_map, List.getElem_map, hi2, hj2]
  exact e2
def fitB (n : Nat) (sts : List (List Nat × List Nat)) : List Bool := sts.map fun p => stampOk p.2 n
abbrev sp_check (K : PySem.W.Frag) : Sp := spF K (fun a : Nat × List (List Nat × List Nat) => PairsOk a.1 a.2) (fun a => [.U (prD a.2), .n ((fitB a.1 a.2).map V.bl)]) fun _ => .v .non
theorem has_check_pairs (T : Txt K mg) (h : At K mg "check_pairs" s_check_pairs ["pairs", "fitting"]) (C_is_name : Has P w K mg base 1 "is_name" ["value"] (sp_is_name K)) : Has P w K mg base 3 "check_pairs" ["pairs", "fitting"] (sp_check K) := by
  refine h.hasF sc_check_pairs (fun _ => rfl) fun f cdv Ar outer s G A a vs Q E hr hp hA hv hk => ?_
  obtain ⟨n, sts⟩ := a
  replace hp : PairsOk n sts := hp
  rcases hv with _ | ⟨hx, _ | ⟨⟨fp, rfl, hfp⟩, _ | _⟩⟩
  rename_i vp
  replace hx : Is K G (.U (prD sts)) vp := hx
  have sc := sc_check_pairs
  refine ⟨_, (pss_cons (ps_set (i := 2) sc.nd rfl (Or.inl rfl) (pe_lst pa_nil))
    (pss_one (ps_for PassesOwn.never rfl (pi_enumT (K := K) (by rfl) T.b_enumerate (pa_cons (pv 0) pa_nil)) (pg_tup rfl (pgs_cons (pg_name (i := 3) sc.nd rfl (Or.inl rfl)) (pgs_cons (pg_tup rfl (pgs_cons (pg_name (i := 4) sc.nd rfl (Or.inl rfl)) (pgs_cons (pg_name (i := 5) sc.nd rfl (Or.inl rfl)) pgs_nil))) pgs_nil))) (pss_cons (ps_if (pt_not (pt_val (pe_callH C_is_name (hr.mono (by decide)) (pa_cons (pv 4) pa_nil)))) (pss_one ps_never) pss_nil)
    (pss_cons (ps_if (pt_not (pt_val (pe_ix (ix_list_k (K := K)) (pv 1) (pv 3) (fun _ _ => rfl)))) (pss_one ps_never) pss_nil)
    (pss_cons (ps_if (pt_cmpR (op_in_k (K := K)) (pv 4) (pv 2) rfl) (pss_one ps_never) pss_nil)
    (pss_one (ps_expr (pe_bm_k (K := K) PySem.F.plainAttrs_list PySem.F.slot_list_append PySem.F.type_list_append mt_append (pv 2) (pa_cons (pv 4) pa_nil)))))))))), ?_⟩
  refine s_new hA fun l A1 hl0 hg0 s1 hl1 => ?_
  have flat : ∀ i, ((sts.take i).map fun q => V.str (S q.1)).all flatV = true := fun i => by
    rw [List.all_eq_true]
    intro x hx
    obtain ⟨q, _, rfl⟩ := List.mem_map.mp hx
    rfl
  refine f_for (K := K) (ds := (prD sts).zipIdx.map fun p => Dd.U [.i (p.2 : Int), p.1]) (if_enumT (ef_var rfl hx)) s1.v (fun i σ' G' A' => ∃ o1 o2 o3, σ' = [some vp, some (.ref fp), some (.ref l), o1, o2, o3] ∧ G' l = none ∧ A' l = some (.lst ((sts.take i).map fun q => V.str (S q.1))) ∧ Step G A G' A') (fun G2 A2 s2 => ⟨none, none, none, rfl, s2.f l (by rw [hl1]; simp) hg0, s2.a l _ hl1, s1.trans s2⟩) ?_ ?_
  · rintro G2 eg i d v σ' G' A' G3 A3 hd ⟨o1, o2, o3, rfl, g1, a1, st⟩ e1 e2 s3 hv
    rw [List.getElem?_map, List.getElem?_zipIdx, List.getElem?_map] at hd
    cases hi : sts[i]? with
    | none => rw [hi] at hd; cases hd
    | some p =>
      rw [hi] at hd
      have ed : Dd.U [.i (((0 + i : Nat)) : Int), .U [.s (S p.1), .s (S p.2)]] = d := Option.some.inj hd
      subst ed
      have hm := List.mem_of_getElem? hi
      obtain ⟨nm1, nm2⟩ := hp.nm p hm
      obtain ⟨st1, st2⟩ := hp.st p hm
      have hil := (List.getElem?_eq_some_iff.mp hi).1
      have few := hp.few
      refine g_nest s3.v hv fun v1 v2 z1 z2 => ?_
      obtain rfl : v1 = V.str (S p.1) := z1
      obtain rfl : v2 = V.str (S p.2) := z2
      have a3 := s3.a l _ a1
      have g3 := s3.f l (by rw [a1]; simp) g1
      refine a_when (K := K) (b := !nameOk p.1) (et_nt (et2 (er_call p.1 (era_cons (er_v rfl) era_nil) rfl nm2))) (fun z => absurd z (by rw [nm1]; decide)) fun _ A4 e4 => ?_
      refine a_when (K := K) (b := !stampOk p.2 n) (et_nt (et2 (er_op (d1 := .n ((fitB n sts).map V.bl)) (er_var rfl ⟨fp, rfl, e4 fp _ (s3.a fp _ (st.v fp _ (st.g fp _ hfp)))⟩) (er_v rfl) (ro_ixN (i := ((0 + i : Nat) : Int)) (by omega) (by rw [Int.toNat_natCast, Nat.zero_add, List.getElem?_map]; unfold fitB; rw [List.getElem?_map, hi]; rfl))))) (fun z => absurd z (by rw [st1]; decide)) fun _ A5 e5 => ?_
      have a5 := e5 l _ (e4 l _ a3)
      refine a_when (K := K) (b := inV (.str (S p.1)) ((sts.take i).map fun q => V.str (S q.1))) (et1 (er_op (d2 := .n ((sts.take i).map fun q => V.str (S q.1))) (er_v rfl) (er_var rfl ⟨l, rfl, a5⟩) (ro_inN (neg := false) rfl (flat i)))) (fun z => absurd z (by rw [not_before hp.di hi]; decide)) fun _ A6 e6 => ?_
      have s6 := s3.trans (Step.on s3.v ((e4.trans e5).trans e6))
      refine s_app (G := G3) (e6 l _ a5) g3 (s3.v.trans ((e4.trans e5).trans e6)) (er_v rfl) (ef_flat (er_v (x := .str (S p.1)) rfl)) (by rw [List.length_map, List.length_take]; omega) fun w7 G7 A7 s7 z7 g7 a7 => ?_
      obtain rfl : w7 = V.str (S p.1) := z7
      refine ⟨G7, ⟨_, _, _, rfl, g7, ?_, ?_⟩, ?_, ?_⟩
      · rw [upd_same, map_take_next hi]
      · exact ((st.trans s6).trans s7).grow hl0 g7
      · exact e1.trans (s6.g.trans s7.g)
      · exact s7.v.mut g7
  · rintro σ' G' A' e1 e2 ⟨o1, o2, o3, rfl, g1, a1, st⟩
    exact hk .non G' A' st rfl
/-! ### Stock(..) -/
abbrev s_Stock___init__ : Stmt := inClass (topS 27) 0
theorem sc_Stock___init__ : FnScope ["self", "size", "stamps", "pairs", "name", "stamp"] ["self", "size", "stamps"] (defScope s_Stock___init__) := ⟨rfl, rfl, rfl, by decide +kernel, rfl, by decide +kernel, by decide +kernel⟩

structure StTxt (K : PySem.W.Frag) (mg : Str → Option Value) (C : Addr) : Prop where
  cl : Cls K C
  nS : NoAttr K C "size"
  nT : NoAttr K C "stamps"
  nO : NoAttr K C "_stamp_of"
  mgC : mg "Stock" = some (.ref C)
def spInit (K : PySem.W.Frag) (C : Addr) : Sp := fun vs A Q _ => ∃ (x : Addr) (n : Nat) (sts : List (List Nat × List Nat)) (w : V), vs = [.ref x, .int (n : Int), w] ∧ PairsOk n sts ∧ ∃ dx G A0, Ex G A0 ∧ Ex A0 A ∧ A0 x = none ∧ A x = some (.ins C dx []) ∧ Is K G (.L (stD sts)) w ∧ ∀ G' A', Step G A0 G' A' → Is K G' (stockC K C (n : Int) sts) (.ref x) → Q .non A'
theorem stD_ok {sts : List (List Nat × List Nat)} (h : sts.length ≤ 1000) : okD (.L (stD sts)) ∧ depD (.L (stD sts)) < 3 ∧ tupD (.L (stD sts)) = .U (prD sts) := by
  have e1 : ∀ sts : List (List Nat × List Nat), okL (stD sts) ∧ depL (stD sts) ≤ 1 ∧ tupL (stD sts) = prD sts := by
    intro sts
    induction sts with
    | nil => exact ⟨trivial, Nat.zero_le _, rfl⟩
    | cons p r ih =>
      obtain ⟨i1, i2, i3⟩ := ih
      refine ⟨⟨⟨⟨trivial, trivial, trivial⟩, by simp⟩, i1⟩, ?_, ?_⟩
      · show max (depD (.L [.s (S p.1), .s (S p.2)])) (depL (stD r)) ≤ 1
        have : depD (.L [.s (S p.1), .s (S p.2)]) = 1 := rfl
        omega
      · show tupD (.L [.s (S p.1), .s (S p.2)]) :: tupL (stD r) = Dd.U [.s (S p.1), .s (S p.2)] :: prD r
        rw [i3]
        rfl
  obtain ⟨i1, i2, i3⟩ := e1 sts
  refine ⟨⟨i1, by rw [stD_len]; exact h⟩, ?_, ?_⟩
  · show depL (stD sts) + 1 < 3
    omega
  · show Dd.U (tupL (stD sts)) = _
    rw [i3]
theorem ok_init {f C : Addr} {fd : FuncData} (F : Fun K "__init__" "Stock.__init__" s_Stock___init__ f fd) (T : Txt K mg) (TS : StTxt K mg C) (C_as_tuples : Has P w K mg base 3 "as_tuples" ["value"] (sp_tup K 3)) (C_is_stamp : Has P w K mg base 2 "is_stamp" ["value", "size"] (sp_is_stamp K)) (C_check_pairs : Has P w K mg base 3 "check_pairs" ["pairs", "fitting"] (sp_check K)) : FnOk P w K mg base CX0 4 f fd ["self", "size", "stamps"] (spInit K C) := by
  have sc := sc_Stock___init__
  refine F.ok sc (fun vs H Q E h => ?_) (fun cdv Ar outer s A vs Q E hr h => ?_)
  · obtain ⟨x, n, sts, w, rfl, _⟩ := h
    rfl
  obtain ⟨x, n, sts, wv, rfl, hp, dx, G, A0, hGA, hA, hx0, hx, hw, hk⟩ := h
  refine ⟨_, (pss_cons (ps_set (i := 3) sc.nd rfl (Or.inl rfl) (pe_callH C_as_tuples (hr.mono (by decide)) (pa_cons (pv 2) pa_nil)))
    (pss_cons (ps_expr (pe_callH C_check_pairs (hr.mono (by decide)) (pa_cons (pv 3) (pa_cons (pe_lc (own := [("name", 4), ("stamp", 5)]) (g := gTup K 2 (gCons (gName 4) (gCons (gName 5) gNil))) (by rfl) sc.nd (pi_tup_k (K := K) (pv 3)) (blkOk_by (N := ["self", "size", "stamps", "pairs", "name", "stamp"]) (sc := defScope s_Stock___init__) (own := [("name", 4), ("stamp", 5)]) (by decide +kernel)) (fun _ _ _ _ _ => (pg_tup rfl (pgs_cons (pg_name (i := 4) sc.nd rfl (Or.inl rfl)) (pgs_cons (pg_name (i := 5) sc.nd rfl (Or.inl rfl)) pgs_nil)))) (fun _ _ _ _ _ => pts_nil) (fun _ _ _ _ _ => (pe_callH C_is_stamp (hr.mono (by decide)) (pa_cons (pv 5) (pa_cons (pv 1) pa_nil))))) pa_nil))))
    (pss_cons (ps_fld (pv 0) (pv 1) rfl)
    (pss_cons (ps_fld (pv 0) (pv 3) rfl)
    (pss_one (ps_fld (pv 0) (pe_dc (own := [("name", 4), ("stamp", 5)]) (g := gTup K 2 (gCons (gName 4) (gCons (gName 5) gNil))) (by rfl) sc.nd (pi_tup_k (K := K) (pv 3)) (blkOk_by (N := ["self", "size", "stamps", "pairs", "name", "stamp"]) (sc := defScope s_Stock___init__) (own := [("name", 4), ("stamp", 5)]) (by decide +kernel)) (fun _ _ _ _ _ => (pg_tup rfl (pgs_cons (pg_name (i := 4) sc.nd rfl (Or.inl rfl)) (pgs_cons (pg_name (i := 5) sc.nd rfl (Or.inl rfl)) pgs_nil)))) (fun _ _ _ _ _ => pts_nil) (fun _ _ _ _ _ => (pv 4)) (fun _ _ _ _ _ => (pv 5))) rfl)))))), ?_⟩
  obtain ⟨k1, k2, k3⟩ := stD_ok hp.few
  have s0 : Step G A0 G A := .on hGA hA
  have gx : G x = none := ex_out hGA hx0
  refine s_set (K := K) (d := .U (prD sts)) (Ef.to (ef_call (Dd.L (stD sts)) (efa_cons (ef_var rfl hw) efa_nil) rfl ⟨k1, k2⟩) k3) s0.v fun vp G1 A1 s1 hvp => ?_
  have hfit : Ef K (tLc (iTup K (tVar 3)) (gTup K 2 (gCons (gName 4) (gCons (gName 5) gNil))) tYes (tCall (sp_is_stamp K) [] E0 (tCons (tVar 5) (tCons (tVar 1) tNil))) [4, 5]) [some (.ref x), some (.int (n : Int)), some wv, some vp, none, none] G1 (.n ((fitB n sts).map V.bl)) := by
    refine Ef.as (ef_lc (K := K) (its := sts) (inj := fun p => Dd.U [.s (S p.1), .s (S p.2)]) (fun _ => true) (fun p => Dd.b (stampOk p.2 n)) (if_tup (ef_var (i := 3) rfl hvp)) (by have := hp.few; omega) (fun i p v G' A' eg ea hi hv => ?_)) ?_
    · obtain ⟨T1, us, rfl, hT, y1, r1, rfl, hy1, y2, r2, rfl, hy2, hr2⟩ := hv
      have er : r2 = [] := hr2
      subst er
      obtain rfl : y1 = V.str (S p.1) := hy1
      obtain rfl : y2 = V.str (S p.2) := hy2
      exact ⟨_, fun Q q => ⟨T1, _, rfl, ex_t ea hT, rfl, _, _, rfl, _, _, rfl, rfl, q⟩, rfl, fun H2 e Q q => q H2 (Ex.refl _), fun _ => ef_flat (er_call (p.2, n) (era_cons (er_v rfl) (era_cons (er_v rfl) era_nil)) rfl (hp.st p (List.mem_of_getElem? hi)).2)⟩
    · intro H v z
      rw [filt_true] at z
      refine Is.N2n ?_
      unfold fitB
      rw [List.map_map, List.map_map]
      exact z
  refine s_drop (K := K) (ef_call (n, sts) (efa_cons (ef_var rfl hvp) (efa_cons hfit efa_nil)) rfl hp) s1.v fun v2 G2 A2 s2 _ => ?_
  have x2 : A2 x = some (.ins C dx []) := s2.a x _ (s1.a x _ hx)
  have g2 : G2 x = none := s2.f x (by rw [s1.a x _ hx]; simp) (s1.f x (by rw [hx]; simp) gx)
  have S2 : Step G A0 G2 A2 := (s0.trans s1).trans s2
  replace hvp := hvp.mono s2.g
  -- self.size = size
  refine ⟨_, rfl, _, rfl, x, C, dx, [], rfl, x2, TS.cl, TS.nS, by decide, ?_⟩
  have S3 := S2.grow (o := .ins C dx (putF "size" (.int (n : Int)) [])) hx0 g2
  -- self.stamps = pairs
  refine ⟨_, rfl, _, rfl, x, C, dx, _, rfl, upd_same, TS.cl, TS.nT, by show 1 < 1000; decide, ?_⟩
  obtain ⟨ps, vs2, rfl, hps, hE⟩ := hvp
  have hvp : Is K G2 (.U (prD sts)) (.ref ps) := ⟨ps, vs2, rfl, hps, hE⟩
  rw [upd_upd]
  have S4 := S2.grow (o := .ins C dx (putF "stamps" (.ref ps) (putF "size" (.int (n : Int)) []))) hx0 g2
  -- self._stamp_of = {..}
  show sFld K (tVar 0) (tDc (iTup K (tVar 3)) (gTup K 2 (gCons (gName 4) (gCons (gName 5) gNil))) tYes (tVar 4) (tVar 5) [4, 5]) "_stamp_of" { nx := fun _ H' => Q .non H', rt := Q } [some (.ref x), some (.int (n : Int)), some wv, some (.ref ps), none, none] _
  unfold sFld
  show tDc (iTup K (tVar 3)) (gTup K 2 (gCons (gName 4) (gCons (gName 5) gNil))) tYes (tVar 4) (tVar 5) [4, 5] [some (.ref x), some (.int (n : Int)), some wv, some (.ref ps), none, none] _ _
  refine ef_dcC (K := K) (σ := [some (.ref x), some (.int (n : Int)), some wv, some (.ref ps), none, none]) (its := sts) (inj := fun p => Dd.U [.s (S p.1), .s (S p.2)]) (G := G2) (fun p : List Nat × List Nat => (Sum.inr (S p.1) : Key)) (fun p => V.str (S p.2)) (List.pairwise_map.mpr ((List.pairwise_map.mp hp.di).imp fun h e => h (S_inj (Sum.inr.inj e)))) (if_tup (ef_var (i := 3) rfl hvp)) (by have := hp.few; omega) (fun i p v G' A' e1 e2 hi hv => ?_) G2 _ (Ex.refl _) S4.v _ fun vd G5 A5 s5 hvd => ?_
  · obtain ⟨T1, us, rfl, hT, y1, r1, rfl, hy1, y2, r2, rfl, hy2, hr2⟩ := hv
    have er : r2 = [] := hr2
    subst er
    obtain rfl : y1 = V.str (S p.1) := hy1
    obtain rfl : y2 = V.str (S p.2) := hy2
    exact ⟨_, fun Q q => ⟨T1, _, rfl, ex_t e2 hT, rfl, _, _, rfl, _, _, rfl, rfl, q⟩, rfl, er_v rfl, er_v rfl⟩
  obtain ⟨dd, rfl, hdd⟩ := hvd
  have x5 : A5 x = some (.ins C dx (putF "stamps" (.ref ps) (putF "size" (.int (n : Int)) []))) := s5.a x _ upd_same
  have g5 : G5 x = none := s5.f x (by rw [upd_same]; simp) g2
  refine ⟨_, rfl, x, C, dx, _, rfl, x5, TS.cl, TS.nO, ?_, ?_⟩
  · have : (putF "stamps" (V.ref ps) (putF "size" (.int (n : Int)) [])).length = 2 := by
      show (if ("size" : Str) = "stamps" then _ else _ : List (Str × V)).length = 2
      rw [if_neg ne_ss]
      rfl
    rw [this]
    decide
  have S5 := (S4.trans s5).grow (o := .ins C dx (stFlds (n : Int) ps dd)) hx0 g5
  refine hk _ _ (S5.seal hx0 g5 upd_same) ⟨x, dx, ps, dd, rfl, upd_same, ?_, ?_⟩
  · exact (hvp.mono s5.g).mono (Ex.new g5)
  · exact Ex.new g5 dd _ hdd
end
end Mi

set_option maxHeartbeats 4000000
namespace Mi
open PySem PySem.Spec PyProof.Rows L2 Evl
local macro_rules | `(tactic| walk_at "side") => `(tactic| (first | assumption | omega | exact rfl | decide | (simp only [List.length_cons, List.length_nil, List.length_map, List.length_append, List.length_replicate] <;> omega)))
local macro_rules | `(tactic| walk_at "ro") => `(tactic| (first
  | with_reducible exact ro_I0
  | with_reducible exact ro_1018
  | with_reducible exact ro_neC
  | with_reducible exact ro_eqC
  | with_reducible exact ro_neI
  | with_reducible exact ro_eqI
  | with_reducible exact ro_neB
  | with_reducible exact ro_eqB
  | ((with_reducible apply ro_mod); (walk_at "side"))
  | ((with_reducible apply ro_div) <;> (walk_at "side"))
  | ((with_reducible apply ro_divW) <;> (walk_at "side"))
  | with_reducible exact ro_1012
  | with_reducible exact ro_1015
  | ((with_reducible apply ro_mulL) <;> (walk_at "side"))
  | ((with_reducible apply ro_mulR) <;> (walk_at "side"))
  | ((with_reducible apply ro_addC); (walk_at "side"))
  | ((with_reducible apply ro_ixC) <;> (walk_at "side"))
  | ((with_reducible apply ro_ixI) <;> (walk_at "side"))
  | ((with_reducible apply ro_ixIN) <;> (walk_at "side"))
  | ((with_reducible apply ro_ixT2) <;> (walk_at "side"))
  | ((with_reducible apply ro_ixG) <;> (walk_at "side"))
  | ((with_reducible apply ro_eq); exact rfl)
  | ((with_reducible apply ro_ne); exact rfl)
  | with_reducible exact ro_isN
  | with_reducible exact ro_notN
  | with_reducible exact ro_eqL
  | with_reducible exact ro_neL
  | with_reducible exact ro_eqU
  | ((with_reducible apply ro_cat); (walk_at "side"))
  | with_reducible exact ro_inLi
  | with_reducible exact ro_inNi
  | with_reducible exact ro_inUi
  | ((with_reducible apply ro_inL) <;> (walk_at "side"))
  | ((with_reducible apply ro_inN) <;> (walk_at "side"))
  | ((with_reducible apply ro_inU) <;> (walk_at "side"))))
local macro_rules | `(tactic| walk_at "rc") => `(tactic| (first
  | with_reducible exact rc_int
  | with_reducible exact rc_intB
  | with_reducible exact rc_max2
  | ((with_reducible apply rc_lenC); (walk_at "side"))
  | with_reducible exact rc_lenI
  | with_reducible exact rc_lenT
  | with_reducible exact rc_lenIN
  | with_reducible exact rc_lenTN
  | with_reducible exact rc_lenL
  | with_reducible exact rc_lenN
  | with_reducible exact rc_lenU
  | with_reducible exact rc_listL
  | with_reducible exact rc_listU
  | with_reducible exact rc_tupL
  | with_reducible exact rc_tupN
  | ((with_reducible apply rc_isi_int); decide +kernel)
  | ((with_reducible apply rc_isi_str); decide +kernel)
  | ((with_reducible apply rc_isi_bl); decide +kernel)
  | ((with_reducible apply rc_isi_non); decide +kernel)
  | ((with_reducible apply rc_isi_u); decide +kernel)
  | ((with_reducible apply rc_isi_l); decide +kernel)))
local macro_rules | `(tactic| walk_at "er") => `(tactic| (first
  | ((with_reducible apply er_var); (exact rfl); assumption)
  | ((with_reducible apply er_v); exact rfl)
  | with_reducible exact er_c
  | ((with_reducible apply er_pick); (walk_at "er"); (walk_at "er"); (walk_at "er"))
  | ((with_reducible apply er_op); (walk_at "er"); (walk_at "er"); (walk_at "ro"))
  | ((with_reducible apply er_cb); (walk_at "era"); (walk_at "rc"))
  | ((with_reducible apply er_lst'); (walk_at "era"); (exact rfl); (walk_at "side"))
  | ((with_reducible apply er_tup'); (walk_at "era"); (exact rfl); (walk_at "side"))
  | ((with_reducible apply er_notV); (walk_at "er"))
  | ((with_reducible apply er_andV); (walk_at "er"); (intro _; (walk_at "er")))
  | ((with_reducible apply er_orV); (walk_at "er"); (intro _; (walk_at "er")))
  | ((with_reducible apply er_ite); (walk_at "et"); (intro _; (walk_at "er")); (intro _; (walk_at "er")))))
local macro_rules | `(tactic| walk_at "era") => `(tactic| (first
  | with_reducible exact era_nil
  | ((with_reducible apply era_cons); (walk_at "er"); (walk_at "era"))))
local macro_rules | `(tactic| walk_at "et") => `(tactic| (first
  | ((with_reducible apply et_an); (walk_at "et"); (intro _; (walk_at "et")))
  | ((with_reducible apply et_orr); (walk_at "et"); (intro _; (walk_at "et")))
  | ((with_reducible apply et_nt); (walk_at "et"))
  | ((with_reducible apply et1); (walk_at "er"))
  | ((with_reducible apply et2); (walk_at "er"))))

def findM (st : List (List Nat × List Nat)) (n : List Nat) : V := match st.find? (fun p => decide (p.1 = n)) with
  | some p => .str (S p.2)
  | none => .non
def stampOf (sts : List (List Nat × List Nat)) (n : List Nat) : List Nat := match sts.find? (fun p => decide (p.1 = n)) with
  | some p => p.2
  | none => []
theorem stampOf_is {sts : List (List Nat × List Nat)} {n : List Nat} (h : ∃ p ∈ sts, p.1 = n) : ∃ p ∈ sts, stampOf sts n = p.2 ∧ findM sts n = .str (S p.2) := by
  obtain ⟨q, hq, hn⟩ := h
  cases hf : sts.find? (fun p => decide (p.1 = n)) with
  | none =>
    have := List.find?_eq_none.mp hf q hq
    simp [hn] at this
  | some p => exact ⟨p, List.mem_of_find?_eq_some hf, by unfold stampOf; rw [hf], by unfold findM; rw [hf]⟩
theorem stampOf_first {sts : List (List Nat × List Nat)} {p : List Nat × List Nat} (hd : (sts.map (·.1)).Nodup) (hm : p ∈ sts) : stampOf sts p.1 = p.2 := by
  unfold stampOf
  cases hf : sts.find? (fun q => decide (q.1 = p.1)) with
  | none =>
    have := List.find?_eq_none.mp hf p hm
    simp at this
  | some q =>
    have hq := List.mem_of_find?_eq_some hf
    have hk : q.1 = p.1 := by
      have h0 := List.find?_some hf
      simpa using h0
    obtain ⟨i, hi, rfl⟩ := List.getElem_of_mem hq
    obtain ⟨j, hj, rfl⟩ := List.getElem_of_mem hm
    have hp := List.pairwise_iff_getElem.mp hd
    rcases Nat.lt_trichotomy i j with h | h | h
    · have := hp i j (by rw [List.length_map]; exact hi) (by rw [List.length_map]; exact hj) h
      rw [List.getElem_map, List.getElem_map] at this
      exact absurd hk this
    · subst h
      rfl
    · have := hp j i (by rw [List.length_map]; exact hj) (by rw [List.length_map]; exact hi) h
      rw [List.getElem_map, List.getElem_map] at this
      exact absurd hk.symm this
def marksN (l : List Nat) : Nat := (l.filter fun c => !decide (c = 45)).length
theorem free_marks : ∀ {a b : List Nat}, a.length = b.length → marksN (freeM a b) ≤ marksN a ∧ (freeM a b ≠ a → marksN (freeM a b) < marksN a)
  | [], [], _ => ⟨Nat.le_refl _, fun h => absurd rfl h⟩
  | x :: a, y :: b, h => by
    obtain ⟨i1, i2⟩ := free_marks (a := a) (b := b) (by simpa using h)
    have e : freeM (x :: a) (y :: b) = (if y = 45 then x else 45) :: freeM a b := rfl
    rw [e]
    by_cases hy : y = 45
    · rw [if_pos hy]
      by_cases hx : x = 45
      · simp only [marksN, List.filter_cons, hx, decide_true, Bool.not_true, Bool.false_eq_true, if_false] at *
        exact ⟨i1, fun hne => i2 fun z => hne (by rw [z])⟩
      · simp only [marksN, List.filter_cons, hx, decide_false, Bool.not_false, if_true, List.length_cons] at *
        exact ⟨by omega, fun hne => by have := i2 fun z => hne (by rw [z]); omega⟩
    · rw [if_neg hy]
      by_cases hx : x = 45
      · simp only [marksN, List.filter_cons, hx, decide_true, Bool.not_true, Bool.false_eq_true, if_false] at *
        exact ⟨i1, fun hne => i2 fun z => hne (by rw [z])⟩
      · simp only [marksN, List.filter_cons, hx, decide_false, decide_true, Bool.not_true, Bool.false_eq_true, if_false, Bool.not_false, if_true, List.length_cons] at *
        exact ⟨by omega, fun _ => by omega⟩
  | [], _ :: _, h => by simp at h
  | _ :: _, [], h => by simp at h

section
variable {P : Program} {w : World} {K : PySem.W.Frag} {mg : Str → Option Value} {base : Heap}
/-! ### methods of a stock -/
abbrev s_Stock___contains__ : Stmt := inClass (topS 27) 3
theorem sc_Stock___contains__ : FnScope ["self", "name"] ["self", "name"] (defScope s_Stock___contains__) := ⟨rfl, rfl, rfl, by decide +kernel, rfl, by decide +kernel, by decide +kernel⟩

abbrev sp_contains (K : PySem.W.Frag) (C : Addr) : Sp := spR K (fun _ : Nat × List (List Nat × List Nat) × List Nat => True) (fun a => [stockC K C (a.1 : Int) a.2.1, .s (S a.2.2)]) fun a => .b (a.2.1.find? fun p => decide (p.1 = a.2.2)).isSome
theorem ok_contains {f C : Addr} {fd : FuncData} (F : Fun K "__contains__" "Stock.__contains__" s_Stock___contains__ f fd) (T : Txt K mg) (TS : StTxt K mg C) : FnOk P w K mg base CX0 1 f fd ["self", "name"] (sp_contains K C) := by
  have sc := sc_Stock___contains__
  refine F.ok sc (fun vs H Q E h => ?_) (fun cdv A outer s H vs Q E hr h => ?_)
  · obtain ⟨a, _, hv, _⟩ := h
    rcases hv with _ | ⟨_, _ | ⟨_, _ | _⟩⟩
    rfl
  obtain ⟨⟨n, sts, name⟩, hp, hv, hk⟩ := h
  rcases hv with _ | ⟨hx, _ | ⟨rfl, _ | _⟩⟩
  rename_i x
  replace hx : Is K H (stockC K C (n : Int) sts) x := hx
  refine ⟨_, (pss_one (ps_ret (pe_cmpR op_inK (pv 1) (pe_fld (pv 0) rfl) rfl))), ?_⟩
  refine a_rete (K := K) (er_op (d1 := .s (S name)) (er_v rfl) (er_stampOf TS.cl TS.nO (er_var rfl hx)) ro_inK) ?_ (Ex.refl H) hk
  rw [stK_get, Option.isSome_map]
theorem ro_notInO {C : Addr} {n : Nat} {sts : List (List Nat × List Nat)} {name : List Nat} : Ro K (rInO C (sp_contains K C) true) (.s (S name)) (stockC K C (n : Int) sts) (.b (!(sts.find? fun p => decide (p.1 = name)).isSome)) := by
  rintro v1 v2 H1 h1 h2 Q q
  obtain rfl : v1 = V.str (S name) := h1
  have h2' : Is K H1 (stockC K C (n : Int) sts) v2 := h2
  obtain ⟨x, dx, ps, dd, rfl, hx, h3, h4⟩ := h2
  exact ⟨x, dx, _, rfl, hx, (n, sts, name), trivial, .cons h2' (.cons rfl .nil), fun v H' e z => ⟨_, z, q _ H' e rfl⟩⟩
abbrev s_Stock_stamp : Stmt := inClass (topS 27) 7
theorem sc_Stock_stamp : FnScope ["self", "name"] ["self", "name"] (defScope s_Stock_stamp) := ⟨rfl, rfl, rfl, by decide +kernel, rfl, by decide +kernel, by decide +kernel⟩

abbrev sp_stamp (K : PySem.W.Frag) (C : Addr) : Sp := spR K (fun a : Nat × List (List Nat × List Nat) × List Nat => ∃ p ∈ a.2.1, p.1 = a.2.2) (fun a => [stockC K C (a.1 : Int) a.2.1, .s (S a.2.2)]) fun a => .s (S (stampOf a.2.1 a.2.2))
theorem ok_stamp {f fC C : Addr} {fd fdC : FuncData} (F : Fun K "stamp" "Stock.stamp" s_Stock_stamp f fd) (T : Txt K mg) (TS : StTxt K mg C) (hiC : PySem.W.findIn K (.ref C) "__contains__" = some (some (.ref fC))) (hfC : PySem.W.isFn K (.ref fC) = true) (FC : FnOk P w K mg base CX0 1 fC fdC ["self", "name"] (sp_contains K C)) (bC : Binds K fdC ["self", "name"] []) : FnOk P w K mg base CX0 2 f fd ["self", "name"] (sp_stamp K C) := by
  have sc := sc_Stock_stamp
  refine F.ok sc (fun vs H Q E h => ?_) (fun cdv A outer s H vs Q E hr h => ?_)
  · obtain ⟨a, _, hv, _⟩ := h
    rcases hv with _ | ⟨_, _ | ⟨_, _ | _⟩⟩
    rfl
  obtain ⟨⟨n, sts, name⟩, hp, hv, hk⟩ := h
  replace hp : ∃ p ∈ sts, p.1 = name := hp
  rcases hv with _ | ⟨hx, _ | ⟨rfl, _ | _⟩⟩
  rename_i x
  replace hx : Is K H (stockC K C (n : Int) sts) x := hx
  obtain ⟨p, hpm, hst, _⟩ := stampOf_is hp
  have hfs : (sts.find? fun p => decide (p.1 = name)).isSome = true := by
    obtain ⟨q, hq, hn⟩ := hp
    rw [List.find?_isSome]
    exact ⟨q, hq, decide_eq_true hn⟩
  have hval : valV (stK sts) (Sum.inr (S name)) = some (.str (S (stampOf sts name))) := by
    rw [stK_get]
    unfold stampOf
    cases hf : sts.find? (fun p => decide (p.1 = name)) with
    | none => rw [hf] at hfs; cases hfs
    | some p => rfl
  refine ⟨_, (pss_cons (ps_if (pt_cmpR (op_notInO hiC hfC FC bC (hr.mono (by decide))) (pv 1) (pv 0) rfl) (pss_one ps_never) pss_nil)
    (pss_one (ps_ret (pe_ix ix_dK (pe_fld (pv 0) rfl) (pv 1) (fun _ _ => rfl))))), ?_⟩
  refine a_when (K := K) (b := !(sts.find? fun p => decide (p.1 = name)).isSome) (et1 (er_op (d1 := .s (S name)) (er_v rfl) (er_var rfl hx) ro_notInO)) (fun hb => by rw [hfs] at hb; cases hb) fun _ H1 e1 => ?_
  exact a_rete (K := K) (er_op (d2 := .s (S name)) (er_stampOf TS.cl TS.nO (er_var rfl (hx.mono e1))) (er_v rfl) (ro_ixK hval)) rfl e1 hk
theorem ne_st1 : ¬ (("stamp" : Str) = "size") := by decide +kernel
theorem ne_st2 : ¬ (("stamp" : Str) = "stamps") := by decide +kernel
theorem ne_st3 : ¬ (("stamp" : Str) = "_stamp_of") := by decide +kernel
/-- stock.stamp(name) -/
theorem er_stampCall {σ : L2.St} {H : Hp} {te tn : TE} {C : Addr} {n : Nat} {sts : List (List Nat × List Nat)} {name : List Nat} (h : Er K te σ H (stockC K C (n : Int) sts)) (hn : Er K tn σ H (.s (S name))) (hp : ∃ p ∈ sts, p.1 = name) : Er K (tMeth C "stamp" (sp_stamp K C) [] E0 te (tCons tn tNil)) σ H (.s (S (stampOf sts name))) := fun H1 e Q q =>
  h H1 e _ fun v H2 e2 hz => by
    have hz' : Is K H2 (stockC K C (n : Int) sts) v := hz
    obtain ⟨x, dx, ps, dd, rfl, hx, h3, h4⟩ := hz
    refine ⟨x, dx, _, rfl, hx, ?_, ?_⟩
    · unfold stFlds
      rw [lookup_putF, if_neg ne_st3, lookup_putF, if_neg ne_st2, lookup_putF, if_neg ne_st1]
      rfl
    · refine hn H2 (e.trans e2) _ fun w H3 e3 zw => ⟨(n, sts, name), hp, .cons (hz'.mono e3) (.cons zw .nil), fun v H' e4 z => q v H' ((e2.trans e3).trans e4) z⟩
end
end Mi

set_option maxHeartbeats 4000000
namespace Mi
open PySem PySem.Spec PyProof.Rows L2 Evl
local macro_rules | `(tactic| walk_at "side") => `(tactic| (first | assumption | omega | exact rfl | decide | (simp only [List.length_cons, List.length_nil, List.length_map, List.length_append, List.length_replicate] <;> omega)))
local macro_rules | `(tactic| walk_at "ro") => `(tactic| (first
  | with_reducible exact ro_I0
  | with_reducible exact ro_1018
  | with_reducible exact ro_neC
  | with_reducible exact ro_eqC
  | with_reducible exact ro_neI
  | with_reducible exact ro_eqI
  | with_reducible exact ro_neB
  | with_reducible exact ro_eqB
  | ((with_reducible apply ro_mod); (walk_at "side"))
  | ((with_reducible apply ro_div) <;> (walk_at "side"))
  | ((with_reducible apply ro_divW) <;> (walk_at "side"))
  | with_reducible exact ro_1012
  | with_reducible exact ro_1015
  | ((with_reducible apply ro_mulL) <;> (walk_at "side"))
  | ((with_reducible apply ro_mulR) <;> (walk_at "side"))
  | ((with_reducible apply ro_addC); (walk_at "side"))
  | ((with_reducible apply ro_ixC) <;> (walk_at "side"))
  | ((with_reducible apply ro_ixI) <;> (walk_at "side"))
  | ((with_reducible apply ro_ixIN) <;> (walk_at "side"))
  | ((with_reducible apply ro_ixT2) <;> (walk_at "side"))
  | ((with_reducible apply ro_ixG) <;> (walk_at "side"))
  | ((with_reducible apply ro_eq); exact rfl)
  | ((with_reducible apply ro_ne); exact rfl)
  | with_reducible exact ro_isN
  | with_reducible exact ro_notN
  | with_reducible exact ro_eqL
  | with_reducible exact ro_neL
  | with_reducible exact ro_eqU
  | ((with_reducible apply ro_cat); (walk_at "side"))
  | with_reducible exact ro_inLi
  | with_reducible exact ro_inNi
  | with_reducible exact ro_inUi
  | ((with_reducible apply ro_inL) <;> (walk_at "side"))
  | ((with_reducible apply ro_inN) <;> (walk_at "side"))
  | ((with_reducible apply ro_inU) <;> (walk_at "side"))))
local macro_rules | `(tactic| walk_at "rc") => `(tactic| (first
  | with_reducible exact rc_int
  | with_reducible exact rc_intB
  | with_reducible exact rc_max2
  | ((with_reducible apply rc_lenC); (walk_at "side"))
  | with_reducible exact rc_lenI
  | with_reducible exact rc_lenT
  | with_reducible exact rc_lenIN
  | with_reducible exact rc_lenTN
  | with_reducible exact rc_lenL
  | with_reducible exact rc_lenN
  | with_reducible exact rc_lenU
  | with_reducible exact rc_listL
  | with_reducible exact rc_listU
  | with_reducible exact rc_tupL
  | with_reducible exact rc_tupN
  | ((with_reducible apply rc_isi_int); decide +kernel)
  | ((with_reducible apply rc_isi_str); decide +kernel)
  | ((with_reducible apply rc_isi_bl); decide +kernel)
  | ((with_reducible apply rc_isi_non); decide +kernel)
  | ((with_reducible apply rc_isi_u); decide +kernel)
  | ((with_reducible apply rc_isi_l); decide +kernel)))
local macro_rules | `(tactic| walk_at "er") => `(tactic| (first
  | ((with_reducible apply er_var); (exact rfl); assumption)
  | ((with_reducible apply er_v); exact rfl)
  | with_reducible exact er_c
  | ((with_reducible apply er_pick); (walk_at "er"); (walk_at "er"); (walk_at "er"))
  | ((with_reducible apply er_op); (walk_at "er"); (walk_at "er"); (walk_at "ro"))
  | ((with_reducible apply er_cb); (walk_at "era"); (walk_at "rc"))
  | ((with_reducible apply er_lst'); (walk_at "era"); (exact rfl); (walk_at "side"))
  | ((with_reducible apply er_tup'); (walk_at "era"); (exact rfl); (walk_at "side"))
  | ((with_reducible apply er_notV); (walk_at "er"))
  | ((with_reducible apply er_andV); (walk_at "er"); (intro _; (walk_at "er")))
  | ((with_reducible apply er_orV); (walk_at "er"); (intro _; (walk_at "er")))
  | ((with_reducible apply er_ite); (walk_at "et"); (intro _; (walk_at "er")); (intro _; (walk_at "er")))))
local macro_rules | `(tactic| walk_at "era") => `(tactic| (first
  | with_reducible exact era_nil
  | ((with_reducible apply era_cons); (walk_at "er"); (walk_at "era"))))
local macro_rules | `(tactic| walk_at "et") => `(tactic| (first
  | ((with_reducible apply et_an); (walk_at "et"); (intro _; (walk_at "et")))
  | ((with_reducible apply et_orr); (walk_at "et"); (intro _; (walk_at "et")))
  | ((with_reducible apply et_nt); (walk_at "et"))
  | ((with_reducible apply et1); (walk_at "er"))
  | ((with_reducible apply et2); (walk_at "er"))))

section
variable {P : Program} {w : World} {K : PySem.W.Frag} {mg : Str → Option Value} {base : Heap}
theorem is_cast {K : PySem.W.Frag} {H : Hp} {d d' : Dd} {x : V} (h : Is K H d x) (e : d = d') : Is K H d' x := e ▸ h
/-! ### stock.names -/
abbrev s_Stock_names : Stmt := inClass (topS 27) 1
theorem sc_Stock_names : FnScope ["self", "name", "stamp"] ["self"] (defScope s_Stock_names) := ⟨rfl, rfl, rfl, by decide +kernel, rfl, by decide +kernel, by decide +kernel⟩

abbrev nmV (sts : List (List Nat × List Nat)) : List (List Nat) := sts.map (·.1)
abbrev sp_names (K : PySem.W.Frag) (C : Addr) : Sp := spR K (fun a : Nat × List (List Nat × List Nat) => a.2.length ≤ 1000) (fun a => [stockC K C (a.1 : Int) a.2]) fun a => .u (vsl (nmV a.2))
theorem ok_names {f C : Addr} {fd : FuncData} (F : Fun K "names" "Stock.names" s_Stock_names f fd) (T : Txt K mg) (TS : StTxt K mg C) : FnOk P w K mg base CX0 1 f fd ["self"] (sp_names K C) := by
  have sc := sc_Stock_names
  refine F.ok sc (fun vs H Q E h => ?_) (fun cdv A outer s H vs Q E hr h => ?_)
  · obtain ⟨a, _, hv, _⟩ := h
    rcases hv with _ | ⟨_, _ | _⟩
    rfl
  obtain ⟨⟨n, sts⟩, hp, hv, hk⟩ := h
  replace hp : sts.length ≤ 1000 := hp
  rcases hv with _ | ⟨hx, _ | _⟩
  rename_i x
  replace hx : Is K H (stockC K C (n : Int) sts) x := hx
  refine ⟨_, (pss_one (ps_ret (pe_callTy (cr_tuple_k (K := K)) (by rfl) T.b_tuple (by decide +kernel) (pa_cons (pe_lc (own := [("name", 1), ("stamp", 2)]) (g := gTup K 2 (gCons (gName 1) (gCons (gName 2) gNil))) (by rfl) sc.nd (pi_tup_k (K := K) (pe_fld (pv 0) rfl)) (blkOk_by (N := ["self", "name", "stamp"]) (sc := defScope s_Stock_names) (own := [("name", 1), ("stamp", 2)]) (by decide +kernel)) (fun _ _ _ _ _ => (pg_tup rfl (pgs_cons (pg_name (i := 1) sc.nd rfl (Or.inl rfl)) (pgs_cons (pg_name (i := 2) sc.nd rfl (Or.inl rfl)) pgs_nil)))) (fun _ _ _ _ _ => pts_nil) (fun _ _ _ _ _ => (pv 1))) pa_nil)))), ?_⟩
  refine a_rete (K := K) (d := .u (vsl (nmV sts))) (Er.as (Ef.er (ef_cb (efa_cons (ef_lc (K := K) (G := H) (its := sts) (inj := fun p => Dd.U [.s (S p.1), .s (S p.2)]) (vs := [1, 2]) (fun _ => true) (fun p => Dd.s (S p.1)) (if_tup (ef_stamps TS.cl TS.nT (Ef.as (ef_var (i := 0) rfl hx) fun Hx v z => stockC_D z))) (by omega) (fun i p v G' A' g1 g2 hi hv => ?_)) efa_nil) rf_tupN)) fun Hx v z => ?_) rfl (Ex.refl H) hk
  · refine ⟨[some x, some (.str (S p.1)), some (.str (S p.2))], fun Q q => g_two g2 hv fun v1 v2 h1 h2 => ?_, rfl, fun H2 e Q q => q H2 (Ex.refl _), fun _ => ?_⟩
    · obtain rfl : v1 = V.str (S p.1) := h1
      obtain rfl : v2 = V.str (S p.2) := h2
      exact q
    · exact ef_flat (er_v rfl)
  · rw [filt_true] at z
    refine Is.U2u (is_cast z ?_)
    congr 1
    rw [nmV, vsl, vss, List.map_map, List.map_map, List.map_map]
    rfl
end
end Mi

set_option maxHeartbeats 4000000
namespace Mi
open PySem PySem.Spec PyProof.Rows L2 Evl
local macro_rules | `(tactic| walk_at "side") => `(tactic| (first | assumption | omega | exact rfl | decide | (simp only [List.length_cons, List.length_nil, List.length_map, List.length_append, List.length_replicate] <;> omega)))
local macro_rules | `(tactic| walk_at "ro") => `(tactic| (first
  | with_reducible exact ro_I0
  | with_reducible exact ro_1018
  | with_reducible exact ro_neC
  | with_reducible exact ro_eqC
  | with_reducible exact ro_neI
  | with_reducible exact ro_eqI
  | with_reducible exact ro_neB
  | with_reducible exact ro_eqB
  | ((with_reducible apply ro_mod); (walk_at "side"))
  | ((with_reducible apply ro_div) <;> (walk_at "side"))
  | ((with_reducible apply ro_divW) <;> (walk_at "side"))
  | with_reducible exact ro_1012
  | with_reducible exact ro_1015
  | ((with_reducible apply ro_mulL) <;> (walk_at "side"))
  | ((with_reducible apply ro_mulR) <;> (walk_at "side"))
  | ((with_reducible apply ro_addC); (walk_at "side"))
  | ((with_reducible apply ro_ixC) <;> (walk_at "side"))
  | ((with_reducible apply ro_ixI) <;> (walk_at "side"))
  | ((with_reducible apply ro_ixIN) <;> (walk_at "side"))
  | ((with_reducible apply ro_ixT2) <;> (walk_at "side"))
  | ((with_reducible apply ro_ixG) <;> (walk_at "side"))
  | ((with_reducible apply ro_eq); exact rfl)
  | ((with_reducible apply ro_ne); exact rfl)
  | with_reducible exact ro_isN
  | with_reducible exact ro_notN
  | with_reducible exact ro_eqL
  | with_reducible exact ro_neL
  | with_reducible exact ro_eqU
  | ((with_reducible apply ro_cat); (walk_at "side"))
  | with_reducible exact ro_inLi
  | with_reducible exact ro_inNi
  | with_reducible exact ro_inUi
  | ((with_reducible apply ro_inL) <;> (walk_at "side"))
  | ((with_reducible apply ro_inN) <;> (walk_at "side"))
  | ((with_reducible apply ro_inU) <;> (walk_at "side"))))
local macro_rules | `(tactic| walk_at "rc") => `(tactic| (first
  | with_reducible exact rc_int
  | with_reducible exact rc_intB
  | with_reducible exact rc_max2
  | ((with_reducible apply rc_lenC); (walk_at "side"))
  | with_reducible exact rc_lenI
  | with_reducible exact rc_lenT
  | with_reducible exact rc_lenIN
  | with_reducible exact rc_lenTN
  | with_reducible exact rc_lenL
  | with_reducible exact rc_lenN
  | with_reducible exact rc_lenU
  | with_reducible exact rc_listL
  | with_reducible exact rc_listU
  | with_reducible exact rc_tupL
  | with_reducible exact rc_tupN
  | ((with_reducible apply rc_isi_int); decide +kernel)
  | ((with_reducible apply rc_isi_str); decide +kernel)
  | ((with_reducible apply rc_isi_bl); decide +kernel)
  | ((with_reducible apply rc_isi_non); decide +kernel)
  | ((with_reducible apply rc_isi_u); decide +kernel)
  | ((with_reducible apply rc_isi_l); decide +kernel)))
local macro_rules | `(tactic| walk_at "er") => `(tactic| (first
  | ((with_reducible apply er_var); (exact rfl); assumption)
  | ((with_reducible apply er_v); exact rfl)
  | with_reducible exact er_c
  | ((with_reducible apply er_pick); (walk_at "er"); (walk_at "er"); (walk_at "er"))
  | ((with_reducible apply er_op); (walk_at "er"); (walk_at "er"); (walk_at "ro"))
  | ((with_reducible apply er_cb); (walk_at "era"); (walk_at "rc"))
  | ((with_reducible apply er_lst'); (walk_at "era"); (exact rfl); (walk_at "side"))
  | ((with_reducible apply er_tup'); (walk_at "era"); (exact rfl); (walk_at "side"))
  | ((with_reducible apply er_notV); (walk_at "er"))
  | ((with_reducible apply er_andV); (walk_at "er"); (intro _; (walk_at "er")))
  | ((with_reducible apply er_orV); (walk_at "er"); (intro _; (walk_at "er")))
  | ((with_reducible apply er_ite); (walk_at "et"); (intro _; (walk_at "er")); (intro _; (walk_at "er")))))
local macro_rules | `(tactic| walk_at "era") => `(tactic| (first
  | with_reducible exact era_nil
  | ((with_reducible apply era_cons); (walk_at "er"); (walk_at "era"))))
local macro_rules | `(tactic| walk_at "et") => `(tactic| (first
  | ((with_reducible apply et_an); (walk_at "et"); (intro _; (walk_at "et")))
  | ((with_reducible apply et_orr); (walk_at "et"); (intro _; (walk_at "et")))
  | ((with_reducible apply et_nt); (walk_at "et"))
  | ((with_reducible apply et1); (walk_at "er"))
  | ((with_reducible apply et2); (walk_at "er"))))

section
variable {P : Program} {w : World} {K : PySem.W.Frag} {mg : Str → Option Value} {base : Heap}
abbrev tsD (ns : List (List Nat)) : List Dd := ns.map fun l => Dd.s (S l)
theorem tsD_vsl {ns : List (List Nat)} : (vsl ns).map Dd.v = tsD ns := by
  rw [vsl, vss, List.map_map, List.map_map]
  rfl
theorem tsD_at {ns : List (List Nat)} {i : Nat} {d : Dd} (h : (tsD ns)[i]? = some d) : ∃ n, ns[i]? = some n ∧ d = Dd.s (S n) := by
  rw [List.getElem?_map] at h
  cases q : ns[i]? with
  | none => rw [q] at h; cases h
  | some p => rw [q] at h; exact ⟨p, rfl, (Option.some.inj h).symm⟩
theorem prD_of {st : List (List Nat × List Nat)} {i : Nat} {d : Dd} (h : (prD st)[i]? = some d) : ∃ p, st[i]? = some p ∧ d = Dd.U [.s (S p.1), .s (S p.2)] := by
  rw [List.getElem?_map] at h
  cases q : st[i]? with
  | none => rw [q] at h; cases h
  | some p => rw [q] at h; exact ⟨p, rfl, (Option.some.inj h).symm⟩
/-- stock.names -/
theorem er_names {σ : L2.St} {H : Hp} {te : TE} {C : Addr} {n : Nat} {sts : List (List Nat × List Nat)} (h : Er K te σ H (stockC K C (n : Int) sts)) (hp : sts.length ≤ 1000) : Er K (tProp C (sp_names K C) [] E0 te) σ H (.U (tsD (nmV sts))) := fun H1 e Q q =>
  h H1 e _ fun v H2 e2 hz => by
    have hz' : Is K H2 (stockC K C (n : Int) sts) v := hz
    obtain ⟨x, dx, ps, dd, rfl, hx, h3, h4⟩ := hz
    refine ⟨x, dx, _, rfl, hx, (n, sts), hp, .cons hz' .nil, fun v H' e4 z => q v H' (e2.trans e4) ?_⟩
    rw [← tsD_vsl]
    exact Is.u2U z
abbrev s_names_without : Stmt := topS 29
theorem sc_names_without : FnScope ["names", "name", "other"] ["names", "name"] (defScope s_names_without) := ⟨rfl, rfl, rfl, by decide +kernel, rfl, by decide +kernel, by decide +kernel⟩

abbrev sp_wo (K : PySem.W.Frag) : Sp := spR K (fun a : List (List Nat) × List Nat => a.1.length ≤ 1000) (fun a => [.U (tsD a.1), .s (S a.2)]) fun a => .U (tsD (wo a.1 a.2))
theorem has_names_without (T : Txt K mg) (h : At K mg "names_without" s_names_without ["names", "name"]) : Has P w K mg base 1 "names_without" ["names", "name"] (sp_wo K) := by
  refine h.hasR sc_names_without (fun _ => rfl) fun f cdv A outer s H a vs Q E hr hp hv hk => ?_
  obtain ⟨ns, n⟩ := a
  replace hp : ns.length ≤ 1000 := hp
  rcases hv with _ | ⟨hx, _ | ⟨rfl, _ | _⟩⟩
  rename_i x
  replace hx : Is K H (.U (tsD ns)) x := hx
  have sc := sc_names_without
  refine ⟨_, (pss_one (ps_ret (pe_callTy (cr_tuple_k (K := K)) (by rfl) T.b_tuple (by decide +kernel) (pa_cons (pe_lc (own := [("other", 2)]) (g := gName 2) (by rfl) sc.nd (pi_tup_k (K := K) (pv 0)) (blkOk_by (N := ["names", "name", "other"]) (sc := defScope s_names_without) (own := [("other", 2)]) (by decide +kernel)) (fun _ _ _ _ _ => (pg_name (i := 2) sc.nd rfl (Or.inl rfl))) (fun _ _ _ _ _ => (pts_one (pt_cmpR op_ne (pv 2) (pv 1) (nomark _)))) (fun _ _ _ _ _ => (pv 2))) pa_nil)))), ?_⟩
  refine a_rete (K := K) (d := .U (tsD (wo ns n))) (Ef.er (ef_cb (efa_cons (ef_lc (K := K) (G := H) (its := ns) (inj := fun l => Dd.s (S l)) (vs := [2]) (fun m => !decide (m = n)) (fun m => Dd.s (S m)) (if_tup (ef_var (i := 0) rfl hx)) (by omega) (fun i m v G' A' g1 g2 hi hv => ?_)) efa_nil) rf_tupN)) rfl (Ex.refl H) hk
  obtain rfl : v = V.str (S m) := hv
  exact ⟨_, fun Q q => q, rfl, et1 (er_op (er_v rfl) (er_v rfl) ro_neC), fun _ => ef_flat (er_v rfl)⟩
/-! ### what is left of all stamps -/
structure StOk (size : Nat) (sts : List (List Nat × List Nat)) : Prop where
  few : sts.length ≤ 1000
  st : ∀ p ∈ sts, p.2.length = size
  sz : size ≤ 1000
  di : (sts.map (·.1)).Nodup
def leftG (sts : List (List Nat × List Nat)) (seen : List Nat) : List Nat := sts.foldl (fun l p => freeM l p.2) seen
theorem leftG_next {sts : List (List Nat × List Nat)} {seen : List Nat} {i : Nat} {p : List Nat × List Nat} (h : sts[i]? = some p) : leftG (sts.take (i + 1)) seen = freeM (leftG (sts.take i) seen) p.2 := by
  unfold leftG
  rw [List.take_add_one, h, List.foldl_append]
  rfl
theorem freeM_ln {a b : List Nat} (h : a.length = b.length) : (freeM a b).length = a.length := frQ_len h
abbrev s_left_of_all : Stmt := topS 31
theorem sc_left_of_all : FnScope ["stock", "seen", "left", "_", "stamp"] ["stock", "seen"] (defScope s_left_of_all) := ⟨rfl, rfl, rfl, by decide +kernel, rfl, by decide +kernel, by decide +kernel⟩

abbrev sp_left (K : PySem.W.Frag) (C : Addr) : Sp := spR K (fun a : Nat × List (List Nat × List Nat) × List Nat => StOk a.2.2.length a.2.1) (fun a => [stockC K C (a.1 : Int) a.2.1, .s (S a.2.2)]) fun a => .s (S (leftG a.2.1 a.2.2))
theorem has_left_of_all {C fi : Addr} (T : Txt K mg) (h : At K mg "left_of_all" s_left_of_all ["stock", "seen"]) (F_iter : IterFn P w K mg base 1 fi C "stamps") (C_peeled : Has P w K mg base 1 "peeled" ["left", "stamp"] (sp_peeled K)) : Has P w K mg base 2 "left_of_all" ["stock", "seen"] (sp_left K C) := by
  refine h.hasR sc_left_of_all (fun _ => rfl) fun f cdv A outer s H a vs Q E hr hp hv hk => ?_
  obtain ⟨n, sts, seen⟩ := a
  replace hp : StOk seen.length sts := hp
  rcases hv with _ | ⟨hx, _ | ⟨rfl, _ | _⟩⟩
  rename_i x
  replace hx : Is K H (stockC K C (n : Int) sts) x := hx
  have sc := sc_left_of_all
  have sz := hp.sz
  refine ⟨_, (pss_cons (ps_set (i := 2) sc.nd rfl (Or.inl rfl) (pv 1))
    (pss_cons (ps_for PassesOwn.never rfl (pi_own (K := K) F_iter (hr.mono (by decide)) (pv 0)) (pg_tup rfl (pgs_cons (pg_name (i := 3) sc.nd rfl (Or.inl rfl)) (pgs_cons (pg_name (i := 4) sc.nd rfl (Or.inl rfl)) pgs_nil))) (pss_one (ps_set (i := 2) sc.nd rfl (Or.inl rfl) (pe_callH C_peeled (hr.mono (by decide)) (pa_cons (pv 2) (pa_cons (pv 4) pa_nil))))))
    (pss_one (ps_ret (pv 2))))), ?_⟩
  refine a_setv (K := K) (x := .str (S seen)) (er_v rfl) fun H1 e1 => ?_
  refine b_for (K := K) (G := H1) (ds := prD sts) (if_stock rfl (stockC_D (hx.mono e1))) (Ex.refl H1) (fun i σ' G' A' => ∃ y z, σ' = [some x, some (.str (S seen)), some (.str (S (leftG (sts.take i) seen))), y, z] ∧ Ex H1 A' ∧ (leftG (sts.take i) seen).length = seen.length) (fun G1 A1 s1 => ⟨none, none, rfl, s1.a, rfl⟩) ?_ ?_
  · rintro G1 eg i d v σ' G' A' G2 A2 hd ⟨y, z, rfl, ea, hl⟩ e2 e3 s2 hv
    obtain ⟨p, hp1, rfl⟩ := prD_of hd
    have hst := hp.st p (List.mem_of_getElem? hp1)
    refine g_two s2.v hv fun v1 v2 h1 h2 => ?_
    obtain rfl : v1 = V.str (S p.1) := h1
    obtain rfl : v2 = V.str (S p.2) := h2
    refine a_setv1 (K := K) (x := .str (S (freeM (leftG (sts.take i) seen) p.2))) (er_call (leftG (sts.take i) seen, p.2) (era_cons (er_v rfl) (era_cons (er_v rfl) era_nil)) rfl (by show (leftG (sts.take i) seen).length ≤ 1000; omega)) fun A3 ea3 => ?_
    refine ⟨G2, ⟨some (.str (S p.1)), some (.str (S p.2)), ?_, (ea.trans s2.a).trans ea3, ?_⟩, e2.trans s2.g, s2.v.trans ea3⟩
    · rw [leftG_next hp1]
      rfl
    · rw [leftG_next hp1, freeM_ln (by omega), hl]
  · rintro σ' G' A' eg ev ⟨y, z, rfl, ea, hl⟩
    refine a_rete (K := K) (er_v rfl) ?_ (e1.trans ea) hk
    rw [List.length_map, List.take_length]
/-! ### the first name that lies on top of all -/
def nameO : Option (List Nat) → V
  | none => .non
  | some n => .str (S n)
theorem find_nx {α : Type} {l : List α} {p : α → Bool} {i : Nat} {x : α} (h : l[i]? = some x) (hn : (l.take i).find? p = none) : (l.take (i + 1)).find? p = if p x = true then some x else none := by
  rw [List.take_add_one, h, List.find?_append, hn]
  simp [List.find?_cons]
  split <;> simp_all
theorem find_tk {α : Type} {l : List α} {p : α → Bool} {i : Nat} {x : α} (h : (l.take i).find? p = some x) : l.find? p = some x := by
  have e : l = l.take i ++ l.drop i := (List.take_append_drop _ _).symm
  rw [e, List.find?_append, h]
  rfl
theorem bD_eq {α : Type} {ls : List α} {f : α → Bool} : ((ls.filter fun _ => true).map fun l => Dd.b (f l)) = ((ls.map f).map V.bl).map Dd.v := by
  rw [filt_true, List.map_map, List.map_map]
  rfl
abbrev s_first_on_all : Stmt := topS 33
theorem sc_first_on_all : FnScope ["stock", "lefts", "names", "name", "left"] ["stock", "lefts", "names"] (defScope s_first_on_all) := ⟨rfl, rfl, rfl, by decide +kernel, rfl, by decide +kernel, by decide +kernel⟩

abbrev sp_fon (K : PySem.W.Frag) (C : Addr) : Sp := spR K (fun a : (Nat × List (List Nat × List Nat)) × List (List Nat) × List (List Nat) => (a.2.1.length ≤ 1000 ∧ a.2.2.length ≤ 1000) ∧ ∀ n ∈ a.2.2, ∃ p ∈ a.1.2, p.1 = n) (fun a => [stockC K C (a.1.1 : Int) a.1.2, .L (tsD a.2.1), .U (tsD a.2.2)]) fun a => .v (nameO (a.2.2.find? (agA (stampOf a.1.2) a.2.1)))
theorem has_first_on_all {C f_st : Addr} {fdS : FuncData} (T : Txt K mg) (TS : StTxt K mg C) (h : At K mg "first_on_all" s_first_on_all ["stock", "lefts", "names"]) (C_agree : Has P w K mg base 1 "agree" ["one", "two"] (sp_agree K)) (M_stamp : Meth K C "stamp" f_st) (F_stamp : FnOk P w K mg base CX0 2 f_st fdS ["self", "name"] (sp_stamp K C)) (b_stamp : Binds K fdS ["self", "name"] []) : Has P w K mg base 3 "first_on_all" ["stock", "lefts", "names"] (sp_fon K C) := by
  refine h.hasR sc_first_on_all (fun _ => rfl) fun f cdv A outer s H a vs Q E hr hp hv hk => ?_
  obtain ⟨⟨n, sts⟩, ls, ns⟩ := a
  obtain ⟨⟨hp1, hp2⟩, hp3⟩ := hp
  replace hp1 : ls.length ≤ 1000 := hp1
  replace hp2 : ns.length ≤ 1000 := hp2
  replace hp3 : ∀ n ∈ ns, ∃ p ∈ sts, p.1 = n := hp3
  rcases hv with _ | ⟨hx, _ | ⟨hl, _ | ⟨hn, _ | _⟩⟩⟩
  rename_i x xl xn
  replace hx : Is K H (stockC K C (n : Int) sts) x := hx
  replace hl : Is K H (.L (tsD ls)) xl := hl
  replace hn : Is K H (.U (tsD ns)) xn := hn
  have sc := sc_first_on_all
  refine ⟨_, (pss_cons (ps_for PassesOwn.never rfl (pi_tup_k (K := K) (pv 2)) (pg_name (i := 3) sc.nd rfl (Or.inr rfl)) (pss_one (ps_if (pt_val (pe_callB (cr_all_k (K := K)) (by rfl) T.b_all (by decide +kernel) (pa_cons (pe_lc (own := [("left", 4)]) (g := gName 4) (by rfl) sc.nd (pi_list_k (K := K) (pv 1)) (blkOk_by (N := ["stock", "lefts", "names", "name", "left"]) (sc := defScope s_first_on_all) (own := [("left", 4)]) (by decide +kernel)) (fun _ _ _ _ _ => (pg_name (i := 4) sc.nd rfl (Or.inl rfl))) (fun _ _ _ _ _ => pts_nil) (fun _ _ _ _ _ => (pe_callH C_agree (hr.mono (by decide)) (pa_cons (pv 4) (pa_cons (pe_meth (pv 0) TS.cl M_stamp F_stamp (hr.mono (by decide)) b_stamp .nil pass0 (pa_cons (pv 3) pa_nil)) pa_nil))))) pa_nil))) (pss_one (ps_ret (pv 3))) pss_nil)))
    (pss_one (ps_ret pe_non))), ?_⟩
  refine b_for (K := K) (G := H) (ds := tsD ns) (if_tup (ef_var (i := 2) rfl hn)) (Ex.refl H) (fun i σ' G' A' => ∃ y, σ' = [some x, some xl, some xn, y, none] ∧ Ex H A' ∧ (ns.take i).find? (agA (stampOf sts) ls) = none) (fun G1 A1 s1 => ⟨none, rfl, s1.a, rfl⟩) ?_ ?_
  · rintro G1 eg i d v σ' G' A' G2 A2 hd ⟨y, rfl, ea, hno⟩ e1 e2 s2 hv
    obtain ⟨m, hm, rfl⟩ := tsD_at hd
    obtain rfl : v = V.str (S m) := hv
    have hnx := find_nx hm hno
    have hex := hp3 m (List.mem_of_getElem? hm)
    have E2 : Ex H A2 := ea.trans s2.a
    refine a_when1 (K := K) (b := agA (stampOf sts) ls m) (et2 (Er.to (er_cb (era_cons (Er.as (Ef.er (ef_lc (K := K) (G := A2) (its := ls) (inj := fun l => Dd.s (S l)) (vs := [4]) (fun _ => true) (fun l => Dd.b (agreeM l (stampOf sts m))) (if_list (ef_var (i := 1) rfl (hl.mono E2))) (by omega) (fun i l v G' A' g1 g2 hi hv => ?_))) fun Hx v z => Is.N2n (is_cast z (congrArg Dd.N bD_eq))) era_nil) rc_allBN) ?_)) (fun hb A3 e3 => ?_) fun hb A3 e3 => ?_
    · obtain rfl : v = V.str (S l) := hv
      exact ⟨_, fun Q q => q, rfl, fun H2 e Q q => q H2 (Ex.refl _), fun _ => ef_flat (er_call (l, stampOf sts m) (era_cons (er_v rfl) (era_cons (er_stampCall (n := n) (sts := sts) (name := m) (er_var rfl (hx.mono (E2.trans g1))) (er_v rfl) hex) era_nil)) rfl trivial)⟩
    · rw [List.all_map]
      rfl
    · rw [if_pos hb] at hnx
      refine a_rete (K := K) (er_v rfl) ?_ (E2.trans e3) hk
      show Dd.s (S m) = Dd.v (nameO (ns.find? (agA (stampOf sts) ls)))
      rw [find_tk hnx]
      rfl
    · rw [if_neg (by rw [hb]; exact Bool.false_ne_true)] at hnx
      exact ⟨G2, ⟨_, rfl, E2.trans e3, hnx⟩, e1.trans s2.g, s2.v.trans e3⟩
  · rintro σ' G' A' eg ev ⟨y, rfl, ea, hno⟩
    rw [List.length_map, List.take_length] at hno
    refine a_rete (K := K) er_c ?_ ea hk
    show Dd.v V.non = Dd.v (nameO (ns.find? (agA (stampOf sts) ls)))
    rw [hno]
    rfl
end
end Mi

set_option maxHeartbeats 4000000
namespace Mi
open PySem PySem.Spec PyProof.Rows L2 Evl
local macro_rules | `(tactic| walk_at "side") => `(tactic| (first | assumption | omega | exact rfl | decide | (simp only [List.length_cons, List.length_nil, List.length_map, List.length_append, List.length_replicate] <;> omega)))
local macro_rules | `(tactic| walk_at "ro") => `(tactic| (first
  | with_reducible exact ro_I0
  | with_reducible exact ro_1018
  | with_reducible exact ro_neC
  | with_reducible exact ro_eqC
  | with_reducible exact ro_neI
  | with_reducible exact ro_eqI
  | with_reducible exact ro_neB
  | with_reducible exact ro_eqB
  | ((with_reducible apply ro_mod); (walk_at "side"))
  | ((with_reducible apply ro_div) <;> (walk_at "side"))
  | ((with_reducible apply ro_divW) <;> (walk_at "side"))
  | with_reducible exact ro_1012
  | with_reducible exact ro_1015
  | ((with_reducible apply ro_mulL) <;> (walk_at "side"))
  | ((with_reducible apply ro_mulR) <;> (walk_at "side"))
  | ((with_reducible apply ro_addC); (walk_at "side"))
  | ((with_reducible apply ro_ixC) <;> (walk_at "side"))
  | ((with_reducible apply ro_ixI) <;> (walk_at "side"))
  | ((with_reducible apply ro_ixIN) <;> (walk_at "side"))
  | ((with_reducible apply ro_ixT2) <;> (walk_at "side"))
  | ((with_reducible apply ro_ixG) <;> (walk_at "side"))
  | ((with_reducible apply ro_eq); exact rfl)
  | ((with_reducible apply ro_ne); exact rfl)
  | with_reducible exact ro_isN
  | with_reducible exact ro_notN
  | with_reducible exact ro_eqL
  | with_reducible exact ro_neL
  | with_reducible exact ro_eqU
  | ((with_reducible apply ro_cat); (walk_at "side"))
  | with_reducible exact ro_inLi
  | with_reducible exact ro_inNi
  | with_reducible exact ro_inUi
  | ((with_reducible apply ro_inL) <;> (walk_at "side"))
  | ((with_reducible apply ro_inN) <;> (walk_at "side"))
  | ((with_reducible apply ro_inU) <;> (walk_at "side"))))
local macro_rules | `(tactic| walk_at "rc") => `(tactic| (first
  | with_reducible exact rc_int
  | with_reducible exact rc_intB
  | with_reducible exact rc_max2
  | ((with_reducible apply rc_lenC); (walk_at "side"))
  | with_reducible exact rc_lenI
  | with_reducible exact rc_lenT
  | with_reducible exact rc_lenIN
  | with_reducible exact rc_lenTN
  | with_reducible exact rc_lenL
  | with_reducible exact rc_lenN
  | with_reducible exact rc_lenU
  | with_reducible exact rc_listL
  | with_reducible exact rc_listU
  | with_reducible exact rc_tupL
  | with_reducible exact rc_tupN
  | ((with_reducible apply rc_isi_int); decide +kernel)
  | ((with_reducible apply rc_isi_str); decide +kernel)
  | ((with_reducible apply rc_isi_bl); decide +kernel)
  | ((with_reducible apply rc_isi_non); decide +kernel)
  | ((with_reducible apply rc_isi_u); decide +kernel)
  | ((with_reducible apply rc_isi_l); decide +kernel)))
local macro_rules | `(tactic| walk_at "er") => `(tactic| (first
  | ((with_reducible apply er_var); (exact rfl); assumption)
  | ((with_reducible apply er_v); exact rfl)
  | with_reducible exact er_c
  | ((with_reducible apply er_pick); (walk_at "er"); (walk_at "er"); (walk_at "er"))
  | ((with_reducible apply er_op); (walk_at "er"); (walk_at "er"); (walk_at "ro"))
  | ((with_reducible apply er_cb); (walk_at "era"); (walk_at "rc"))
  | ((with_reducible apply er_lst'); (walk_at "era"); (exact rfl); (walk_at "side"))
  | ((with_reducible apply er_tup'); (walk_at "era"); (exact rfl); (walk_at "side"))
  | ((with_reducible apply er_notV); (walk_at "er"))
  | ((with_reducible apply er_andV); (walk_at "er"); (intro _; (walk_at "er")))
  | ((with_reducible apply er_orV); (walk_at "er"); (intro _; (walk_at "er")))
  | ((with_reducible apply er_ite); (walk_at "et"); (intro _; (walk_at "er")); (intro _; (walk_at "er")))))
local macro_rules | `(tactic| walk_at "era") => `(tactic| (first
  | with_reducible exact era_nil
  | ((with_reducible apply era_cons); (walk_at "er"); (walk_at "era"))))
local macro_rules | `(tactic| walk_at "et") => `(tactic| (first
  | ((with_reducible apply et_an); (walk_at "et"); (intro _; (walk_at "et")))
  | ((with_reducible apply et_orr); (walk_at "et"); (intro _; (walk_at "et")))
  | ((with_reducible apply et_nt); (walk_at "et"))
  | ((with_reducible apply et1); (walk_at "er"))
  | ((with_reducible apply et2); (walk_at "er"))))

section
variable {P : Program} {w : World} {K : PySem.W.Frag} {mg : Str → Option Value} {base : Heap}
/-! ### peeled off all layers at once -/
structure NmOk (sts : List (List Nat × List Nat)) (ns : List (List Nat)) : Prop where
  few : ns.length ≤ 1000
  di : ns.Nodup
  ok : ∀ n ∈ ns, ∃ p ∈ sts, p.1 = n
structure LsOk (ls : List (List Nat)) : Prop where
  few : ls.length ≤ 1000
  ln : ∀ l ∈ ls, l.length ≤ 1000
theorem NmOk.wo {sts : List (List Nat × List Nat)} {ns : List (List Nat)} (h : NmOk sts ns) (n : List Nat) : NmOk sts (wo ns n) :=
  ⟨Nat.le_trans (List.length_filter_le _ _) h.few, h.di.filter _, fun m hm => h.ok m (List.mem_filter.mp hm).1⟩
theorem freeM_le {a b : List Nat} : (freeM a b).length ≤ a.length := by
  unfold freeM
  rw [List.length_map, List.length_zip]
  omega
theorem LsOk.pl {sts : List (List Nat × List Nat)} {ls : List (List Nat)} (h : LsOk ls) (n : List Nat) : LsOk (plA (stampOf sts) ls n) := by
  refine ⟨by unfold plA; rw [List.length_map]; exact h.few, fun l hl => ?_⟩
  obtain ⟨x, hx, rfl⟩ := List.mem_map.mp hl
  exact Nat.le_trans freeM_le (h.ln x hx)
abbrev stuckS (sts : List (List Nat × List Nat)) (ls ns : List (List Nat)) : List (List Nat) := stuckG (stampOf sts) ns.length ls ns
theorem stuckS_none {sts : List (List Nat × List Nat)} {ls ns : List (List Nat)} (h : ns.find? (agA (stampOf sts) ls) = none) : stuckS sts ls ns = ns := by
  unfold stuckS
  cases e : ns.length with
  | zero => rfl
  | succ k =>
    unfold stuckG
    rw [h]
theorem stuckS_some {sts : List (List Nat × List Nat)} {ls ns : List (List Nat)} {n : List Nat} (hd : ns.Nodup) (h : ns.find? (agA (stampOf sts) ls) = some n) : stuckS sts ls ns = stuckS sts (plA (stampOf sts) ls n) (wo ns n) := by
  have hm := List.mem_of_find?_eq_some h
  have hl := wo_len hd hm
  unfold stuckS
  rw [← hl]
  conv => lhs; unfold stuckG
  rw [h]
  rfl
abbrev s_stuck_jointly : Stmt := topS 34
theorem sc_stuck_jointly : FnScope ["stock", "lefts", "names", "rest", "name", "stamp", "left"] ["stock", "lefts", "names"] (defScope s_stuck_jointly) := ⟨rfl, rfl, rfl, by decide +kernel, rfl, by decide +kernel, by decide +kernel⟩

abbrev sp_stuck (K : PySem.W.Frag) (C : Addr) : Sp := spR K (fun a : (Nat × List (List Nat × List Nat)) × List (List Nat) × List (List Nat) => LsOk a.2.1 ∧ NmOk a.1.2 a.2.2) (fun a => [stockC K C (a.1.1 : Int) a.1.2, .L (tsD a.2.1), .U (tsD a.2.2)]) fun a => .U (tsD (stuckS a.1.2 a.2.1 a.2.2))
theorem has_stuck_jointly {C f_st : Addr} {fdS : FuncData} (T : Txt K mg) (TS : StTxt K mg C) (h : At K mg "stuck_jointly" s_stuck_jointly ["stock", "lefts", "names"]) (C_first_on_all : Has P w K mg base 3 "first_on_all" ["stock", "lefts", "names"] (sp_fon K C)) (C_peeled : Has P w K mg base 1 "peeled" ["left", "stamp"] (sp_peeled K)) (C_names_without : Has P w K mg base 1 "names_without" ["names", "name"] (sp_wo K)) (M_stamp : Meth K C "stamp" f_st) (F_stamp : FnOk P w K mg base CX0 2 f_st fdS ["self", "name"] (sp_stamp K C)) (b_stamp : Binds K fdS ["self", "name"] []) : Has P w K mg base 4 "stuck_jointly" ["stock", "lefts", "names"] (sp_stuck K C) := by
  refine h.hasR sc_stuck_jointly (fun _ => rfl) fun f cdv A outer s H a vs Q E hr hp hv hk => ?_
  obtain ⟨⟨n, sts⟩, ls, ns⟩ := a
  obtain ⟨hp1, hp2⟩ := hp
  replace hp1 : LsOk ls := hp1
  replace hp2 : NmOk sts ns := hp2
  rcases hv with _ | ⟨hx, _ | ⟨hl, _ | ⟨hn, _ | _⟩⟩⟩
  rename_i x xl xn
  replace hx : Is K H (stockC K C (n : Int) sts) x := hx
  replace hl : Is K H (.L (tsD ls)) xl := hl
  replace hn : Is K H (.U (tsD ns)) xn := hn
  have sc := sc_stuck_jointly
  refine ⟨_, (pss_cons (ps_set (i := 3) sc.nd rfl (Or.inl rfl) (pv 2))
    (pss_cons (ps_set (i := 4) sc.nd rfl (Or.inl rfl) (pe_callH C_first_on_all (hr.mono (by decide)) (pa_cons (pv 0) (pa_cons (pv 1) (pa_cons (pv 3) pa_nil)))))
    (pss_cons (ps_while PassesOwn.never (pt_cmpR op_notN1 (pv 4) pe_non (nomark _)) (pss_cons (ps_set (i := 5) sc.nd rfl (Or.inr rfl) (pe_meth (pv 0) TS.cl M_stamp F_stamp (hr.mono (by decide)) b_stamp .nil pass0 (pa_cons (pv 4) pa_nil)))
    (pss_cons (ps_setLc (i := 1) (own := [("left", 6)]) (g := gName 6) (by rfl) sc.nd rfl rfl (sw_true rfl rfl rfl (by decide +kernel)) (pi_list_k (K := K) (pv 1)) (blkOk_by (N := ["stock", "lefts", "names", "rest", "name", "stamp", "left"]) (sc := defScope s_stuck_jointly) (own := [("left", 6)]) (by decide +kernel)) (fun _ _ _ _ _ => (pg_name (i := 6) sc.nd rfl (Or.inl rfl))) (fun _ _ _ _ _ => pts_nil) (fun _ _ _ _ _ => (pe_callH C_peeled (hr.mono (by decide)) (pa_cons (pv 6) (pa_cons (pv 5) pa_nil)))))
    (pss_cons (ps_set (i := 3) sc.nd rfl (Or.inl rfl) (pe_callH C_names_without (hr.mono (by decide)) (pa_cons (pv 3) (pa_cons (pv 4) pa_nil))))
    (pss_one (ps_set (i := 4) sc.nd rfl (Or.inl rfl) (pe_callH C_first_on_all (hr.mono (by decide)) (pa_cons (pv 0) (pa_cons (pv 1) (pa_cons (pv 3) pa_nil))))))))))
    (pss_one (ps_ret (pv 3)))))), ?_⟩
  refine a_asg (K := K) (d := .U (tsD ns)) (er_var rfl hn) fun v3 H1 e1 h3 => ?_
  have first : ∀ {σ : L2.St} {H' : Hp} {ls' ns' : List (List Nat)} {x1 x3 : V}, Ex H H' → σ[0]? = some (some x) → σ[1]? = some (some x1) → σ[3]? = some (some x3) → Is K H' (.L (tsD ls')) x1 → Is K H' (.U (tsD ns')) x3 → LsOk ls' → NmOk sts ns' → Er K (tCall (sp_fon K C) [] E0 (tCons (tVar 0) (tCons (tVar 1) (tCons (tVar 3) tNil)))) σ H' (.v (nameO (ns'.find? (agA (stampOf sts) ls')))) := fun {σ H' ls' ns' x1 x3} e q0 q1 q3 i1 i3 k1 k3 => er_call ((n, sts), ls', ns') (era_cons (er_var q0 (hx.mono e)) (era_cons (er_var q1 i1) (era_cons (er_var q3 i3) era_nil))) rfl ⟨⟨k1.few, k3.few⟩, k3.ok⟩
  refine a_setv (K := K) (x := nameO (ns.find? (agA (stampOf sts) ls))) (first e1 rfl rfl rfl (hl.mono e1) h3 hp1 hp2) fun H2 e2 => ?_
  refine ⟨fun m σ' H' => ∃ ls' ns' x1 x3 y, σ' = [some x, some x1, some xn, some x3, some (nameO (ns'.find? (agA (stampOf sts) ls'))), y, none] ∧ Ex H H' ∧ Is K H' (.L (tsD ls')) x1 ∧ Is K H' (.U (tsD ns')) x3 ∧ LsOk ls' ∧ NmOk sts ns' ∧ m = ns'.length ∧ stuckS sts ls' ns' = stuckS sts ls ns, ⟨_, ls, ns, xl, v3, none, rfl, e1.trans e2, hl.mono (e1.trans e2), h3.mono e2, hp1, hp2, rfl, rfl⟩, ?_⟩
  rintro m σ' H' ⟨ls', ns', x1, x3, y, rfl, e, i1, i3, k1, k3, rfl, hE⟩
  cases hf : ns'.find? (agA (stampOf sts) ls') with
  | none =>
    refine (show Et K _ _ H' false from et1 (er_op (er_v rfl) er_c (ro_notN (x := .non)))) H' (Ex.refl _) _ fun H4 e4 => ?_
    rw [if_neg Bool.false_ne_true]
    refine a_rete (K := K) (er_var rfl (i3.mono e4)) ?_ (e.trans e4) hk
    show Dd.U (tsD ns') = Dd.U (tsD (stuckS sts ls ns))
    rw [← hE, stuckS_none hf]
  | some nm =>
    have hm := List.mem_of_find?_eq_some hf
    obtain ⟨p, hpm, hst, _⟩ := stampOf_is (k3.ok nm hm)
    refine (show Et K _ _ H' true from et1 (er_op (er_v rfl) er_c (ro_notN (x := .str (S nm))))) H' (Ex.refl _) _ fun H4 e4 => ?_
    rw [if_pos rfl]
    have E4 := e.trans e4
    refine ⟨_, fun σ2 H2 z => z, ?_⟩
    refine a_setv (K := K) (x := .str (S (stampOf sts nm))) (er_stampCall (n := n) (sts := sts) (name := nm) (er_var rfl (hx.mono E4)) (er_v rfl) (k3.ok nm hm)) fun H5 e5 => ?_
    have E5 := E4.trans e5
    refine a_asg (K := K) (d := .L (tsD (plA (stampOf sts) ls' nm))) (Er.as (Ef.er (ef_lc (K := K) (G := H5) (its := ls') (inj := fun l => Dd.s (S l)) (vs := [6]) (fun _ => true) (fun l => Dd.s (S (freeM l (stampOf sts nm)))) (if_list (ef_var (i := 1) rfl (i1.mono (e4.trans e5)))) (by have := k1.few; omega) (fun i l v G' A' g1 g2 hi hv => ?_))) fun Hx v z => ?_) fun v6 H6 e6 i6 => ?_
    · obtain rfl : v = V.str (S l) := hv
      exact ⟨_, fun Q q => q, rfl, fun H2 e Q q => q H2 (Ex.refl _), fun _ => ef_flat (er_call (l, stampOf sts nm) (era_cons (er_v rfl) (era_cons (er_v rfl) era_nil)) rfl (k1.ln l (List.mem_of_getElem? hi)))⟩
    · refine is_cast z.N2L ?_
      rw [filt_true, plA, tsD, List.map_map]
      rfl
    have E6 := E5.trans e6
    refine a_asg (K := K) (d := .U (tsD (wo ns' nm))) (er_call (ns', nm) (era_cons (er_var rfl (i3.mono ((e4.trans e5).trans e6))) (era_cons (er_v rfl) era_nil)) rfl k3.few) fun v7 H7 e7 i7 => ?_
    refine a_setv1 (K := K) (x := nameO ((wo ns' nm).find? (agA (stampOf sts) (plA (stampOf sts) ls' nm)))) (first (E6.trans e7) rfl rfl rfl (i6.mono e7) i7 (k1.pl nm) (k3.wo nm)) fun H8 e8 => ?_
    refine ⟨(wo ns' nm).length, by have := wo_len k3.di hm; omega, plA (stampOf sts) ls' nm, wo ns' nm, v6, v7, some (.str (S (stampOf sts nm))), rfl, (E6.trans e7).trans e8, i6.mono (e7.trans e8), i7.mono e8, k1.pl nm, k3.wo nm, rfl, ?_⟩
    rw [← hE, stuckS_some k3.di hf]
end
end Mi

set_option maxHeartbeats 4000000
namespace Mi
open PySem PySem.Spec PyProof.Rows L2 Evl
local macro_rules | `(tactic| walk_at "side") => `(tactic| (first | assumption | omega | exact rfl | decide | (simp only [List.length_cons, List.length_nil, List.length_map, List.length_append, List.length_replicate] <;> omega)))
local macro_rules | `(tactic| walk_at "ro") => `(tactic| (first
  | with_reducible exact ro_I0
  | with_reducible exact ro_1018
  | with_reducible exact ro_neC
  | with_reducible exact ro_eqC
  | with_reducible exact ro_neI
  | with_reducible exact ro_eqI
  | with_reducible exact ro_neB
  | with_reducible exact ro_eqB
  | ((with_reducible apply ro_mod); (walk_at "side"))
  | ((with_reducible apply ro_div) <;> (walk_at "side"))
  | ((with_reducible apply ro_divW) <;> (walk_at "side"))
  | with_reducible exact ro_1012
  | with_reducible exact ro_1015
  | ((with_reducible apply ro_mulL) <;> (walk_at "side"))
  | ((with_reducible apply ro_mulR) <;> (walk_at "side"))
  | ((with_reducible apply ro_addC); (walk_at "side"))
  | ((with_reducible apply ro_ixC) <;> (walk_at "side"))
  | ((with_reducible apply ro_ixI) <;> (walk_at "side"))
  | ((with_reducible apply ro_ixIN) <;> (walk_at "side"))
  | ((with_reducible apply ro_ixT2) <;> (walk_at "side"))
  | ((with_reducible apply ro_ixG) <;> (walk_at "side"))
  | ((with_reducible apply ro_eq); exact rfl)
  | ((with_reducible apply ro_ne); exact rfl)
  | with_reducible exact ro_isN
  | with_reducible exact ro_notN
  | with_reducible exact ro_eqL
  | with_reducible exact ro_neL
  | with_reducible exact ro_eqU
  | ((with_reducible apply ro_cat); (walk_at "side"))
  | with_reducible exact ro_inLi
  | with_reducible exact ro_inNi
  | with_reducible exact ro_inUi
  | ((with_reducible apply ro_inL) <;> (walk_at "side"))
  | ((with_reducible apply ro_inN) <;> (walk_at "side"))
  | ((with_reducible apply ro_inU) <;> (walk_at "side"))))
local macro_rules | `(tactic| walk_at "rc") => `(tactic| (first
  | with_reducible exact rc_int
  | with_reducible exact rc_intB
  | with_reducible exact rc_max2
  | ((with_reducible apply rc_lenC); (walk_at "side"))
  | with_reducible exact rc_lenI
  | with_reducible exact rc_lenT
  | with_reducible exact rc_lenIN
  | with_reducible exact rc_lenTN
  | with_reducible exact rc_lenL
  | with_reducible exact rc_lenN
  | with_reducible exact rc_lenU
  | with_reducible exact rc_listL
  | with_reducible exact rc_listU
  | with_reducible exact rc_tupL
  | with_reducible exact rc_tupN
  | ((with_reducible apply rc_isi_int); decide +kernel)
  | ((with_reducible apply rc_isi_str); decide +kernel)
  | ((with_reducible apply rc_isi_bl); decide +kernel)
  | ((with_reducible apply rc_isi_non); decide +kernel)
  | ((with_reducible apply rc_isi_u); decide +kernel)
  | ((with_reducible apply rc_isi_l); decide +kernel)))
local macro_rules | `(tactic| walk_at "er") => `(tactic| (first
  | ((with_reducible apply er_var); (exact rfl); assumption)
  | ((with_reducible apply er_v); exact rfl)
  | with_reducible exact er_c
  | ((with_reducible apply er_pick); (walk_at "er"); (walk_at "er"); (walk_at "er"))
  | ((with_reducible apply er_op); (walk_at "er"); (walk_at "er"); (walk_at "ro"))
  | ((with_reducible apply er_cb); (walk_at "era"); (walk_at "rc"))
  | ((with_reducible apply er_lst'); (walk_at "era"); (exact rfl); (walk_at "side"))
  | ((with_reducible apply er_tup'); (walk_at "era"); (exact rfl); (walk_at "side"))
  | ((with_reducible apply er_notV); (walk_at "er"))
  | ((with_reducible apply er_andV); (walk_at "er"); (intro _; (walk_at "er")))
  | ((with_reducible apply er_orV); (walk_at "er"); (intro _; (walk_at "er")))
  | ((with_reducible apply er_ite); (walk_at "et"); (intro _; (walk_at "er")); (intro _; (walk_at "er")))))
local macro_rules | `(tactic| walk_at "era") => `(tactic| (first
  | with_reducible exact era_nil
  | ((with_reducible apply era_cons); (walk_at "er"); (walk_at "era"))))
local macro_rules | `(tactic| walk_at "et") => `(tactic| (first
  | ((with_reducible apply et_an); (walk_at "et"); (intro _; (walk_at "et")))
  | ((with_reducible apply et_orr); (walk_at "et"); (intro _; (walk_at "et")))
  | ((with_reducible apply et_nt); (walk_at "et"))
  | ((with_reducible apply et1); (walk_at "er"))
  | ((with_reducible apply et2); (walk_at "er"))))

section
variable {P : Program} {w : World} {K : PySem.W.Frag} {mg : Str → Option Value} {base : Heap}
/-! ### pairs of layers, lists or tuples -/
abbrev sqD (b : Bool) (ds : List Dd) : Dd := match b with
  | true => .U ds
  | false => .N ds
theorem sq_is (b : Bool) (ds : List Dd) : Sq (sqD b ds) ds := by
  cases b
  · exact .N ds
  · exact .U ds
theorem if_sq {σ : L2.St} {G : Hp} {b : Bool} {ds : List Dd} {i : Nat} {x : V} (hx : σ[i]? = some (some x)) (h : Is K G (sqD b ds) x) : Itf K (iSeqV K i) σ G ds := by
  cases b
  · exact if_seqL hx (Is.N2L h)
  · exact if_seqU hx h
abbrev pD (b : Bool) (p : List Nat × List Nat) : Dd := sqD b [.s (S p.1), .s (S p.2)]
abbrev gpD (b1 b2 : Bool) (ps : List (List Nat × List Nat)) : Dd := sqD b1 (ps.map (pD b2))
structure PsOk (n : Nat) (ps : List (List Nat × List Nat)) : Prop where
  few : ps.length ≤ 1000
  ln : ∀ p ∈ ps, p.1.length = n ∧ p.2.length = n
abbrev seenM (ps : List (List Nat × List Nat)) : List (List Nat) := ps.map (·.2)
theorem PsOk.ls {n : Nat} {ps : List (List Nat × List Nat)} (h : PsOk n ps) (hn : n ≤ 1000) : LsOk (seenM ps) := by
  refine ⟨by rw [List.length_map]; exact h.few, fun l hl => ?_⟩
  obtain ⟨p, hp, rfl⟩ := List.mem_map.mp hl
  have := (h.ln p hp).2
  omega
theorem PsOk.siz {n : Nat} {ps : List (List Nat × List Nat)} (h : PsOk n ps) : Siz n (seenM ps) := by
  intro l hl
  obtain ⟨p, hp, rfl⟩ := List.mem_map.mp hl
  exact (h.ln p hp).2
theorem StOk.nm {n : Nat} {sts : List (List Nat × List Nat)} (h : StOk n sts) : NmOk sts (nmV sts) :=
  ⟨by rw [nmV, List.length_map]; exact h.few, h.di, fun m hm => by
    obtain ⟨p, hp, rfl⟩ := List.mem_map.mp hm
    exact ⟨p, hp, rfl⟩⟩
theorem StOk.stl {n : Nat} {sts : List (List Nat × List Nat)} (h : StOk n sts) {m : List Nat} (hm : ∃ p ∈ sts, p.1 = m) : (stampOf sts m).length = n := by
  obtain ⟨p, hp, e, _⟩ := stampOf_is hm
  rw [e]
  exact h.st p hp
theorem seen_eq {ps : List (List Nat × List Nat)} : ((ps.filter fun _ => true).map fun p => Dd.s (S p.2)) = tsD (seenM ps) := by
  rw [filt_true, tsD, seenM, List.map_map]
  rfl
abbrev s_common_stuck : Stmt := topS 35
theorem sc_common_stuck : FnScope ["stock", "pairs", "start", "seen"] ["stock", "pairs"] (defScope s_common_stuck) := ⟨rfl, rfl, rfl, by decide +kernel, rfl, by decide +kernel, by decide +kernel⟩

abbrev sp_cs (K : PySem.W.Frag) (C : Addr) : Sp := spR K (fun a : (Nat × List (List Nat × List Nat)) × (Bool × Bool) × List (List Nat × List Nat) => StOk a.1.1 a.1.2 ∧ PsOk a.1.1 a.2.2) (fun a => [stockC K C (a.1.1 : Int) a.1.2, gpD a.2.1.1 a.2.1.2 a.2.2]) fun a => .U (tsD (stuckS a.1.2 (seenM a.2.2) (nmV a.1.2)))
theorem has_common_stuck {C p_nm f_nm : Addr} {fdN : FuncData} (T : Txt K mg) (TS : StTxt K mg C) (h : At K mg "common_stuck" s_common_stuck ["stock", "pairs"]) (C_stuck_jointly : Has P w K mg base 4 "stuck_jointly" ["stock", "lefts", "names"] (sp_stuck K C)) (P_names : PropOf K C "names" p_nm f_nm) (F_names : FnOk P w K mg base CX0 1 f_nm fdN ["self"] (sp_names K C)) (b_names : Binds K fdN ["self"] []) : Has P w K mg base 5 "common_stuck" ["stock", "pairs"] (sp_cs K C) := by
  refine h.hasR sc_common_stuck (fun _ => rfl) fun f cdv A outer s H a vs Q E hr hp hv hk => ?_
  obtain ⟨⟨n, sts⟩, ⟨b1, b2⟩, ps⟩ := a
  obtain ⟨hp1, hp2⟩ := hp
  replace hp1 : StOk n sts := hp1
  replace hp2 : PsOk n ps := hp2
  rcases hv with _ | ⟨hx, _ | ⟨hl, _ | _⟩⟩
  rename_i x xp
  replace hx : Is K H (stockC K C (n : Int) sts) x := hx
  replace hl : Is K H (gpD b1 b2 ps) xp := hl
  have sc := sc_common_stuck
  refine ⟨_, (pss_one (ps_ret (pe_callH C_stuck_jointly (hr.mono (by decide)) (pa_cons (pv 0) (pa_cons (pe_lc (own := [("start", 2), ("seen", 3)]) (g := gSeq K 2 (gCons (gName 2) (gCons (gName 3) gNil))) (by rfl) sc.nd (pi_seqV (K := K) (pv 1)) (blkOk_by (N := ["stock", "pairs", "start", "seen"]) (sc := defScope s_common_stuck) (own := [("start", 2), ("seen", 3)]) (by decide +kernel)) (fun _ _ _ _ _ => (pg_seq (K := K) rfl (pgs_cons (pg_name (i := 2) sc.nd rfl (Or.inl rfl)) (pgs_cons (pg_name (i := 3) sc.nd rfl (Or.inl rfl)) pgs_nil)))) (fun _ _ _ _ _ => pts_nil) (fun _ _ _ _ _ => (pv 3))) (pa_cons (pe_prop (pv 0) TS.cl P_names F_names (hr.mono (by decide)) b_names .nil pass0 rfl) pa_nil)))))), ?_⟩
  refine a_rete (K := K) (er_call ((n, sts), seenM ps, nmV sts) (era_cons (er_var rfl hx) (era_cons (Er.as (Ef.er (ef_lc (K := K) (G := H) (its := ps) (inj := pD b2) (vs := [2, 3]) (fun _ => true) (fun p => Dd.s (S p.2)) (if_sq (i := 1) rfl hl) (by have := hp2.few; omega) (fun i p v G' A' g1 g2 hi hv => ?_))) fun Hx v z => is_cast z.N2L (congrArg Dd.L seen_eq)) (era_cons (er_names (er_var rfl hx) hp1.few) era_nil))) rfl ⟨hp2.ls hp1.sz, hp1.nm⟩) rfl (Ex.refl H) hk
  refine ⟨[some x, some xp, some (.str (S p.1)), some (.str (S p.2))], fun Q q => g_pair (sq_is b2 _) (hv.mono g2) fun v1 v2 h1 h2 => ?_, rfl, fun H2 e Q q => q H2 (Ex.refl _), fun _ => ef_flat (er_v rfl)⟩
  obtain rfl : v1 = V.str (S p.1) := h1
  obtain rfl : v2 = V.str (S p.2) := h2
  exact q
abbrev s_first_to_press : Stmt := topS 36
theorem sc_first_to_press : FnScope ["stock", "layers", "names", "name"] ["stock", "layers", "names"] (defScope s_first_to_press) := ⟨rfl, rfl, rfl, by decide +kernel, rfl, by decide +kernel, by decide +kernel⟩

abbrev lowM (sts : List (List Nat × List Nat)) (ls ns : List (List Nat)) : Option (List Nat) := ns.find? fun n => decide (CP (stampOf sts) ls (wo ns n))
abbrev sp_ftp (K : PySem.W.Frag) (C : Addr) : Sp := spR K (fun a : (Nat × List (List Nat × List Nat)) × List (List Nat) × List (List Nat) => LsOk a.2.1 ∧ NmOk a.1.2 a.2.2) (fun a => [stockC K C (a.1.1 : Int) a.1.2, .L (tsD a.2.1), .U (tsD a.2.2)]) fun a => .v (nameO (lowM a.1.2 a.2.1 a.2.2))
theorem has_first_to_press {C : Addr} (T : Txt K mg) (h : At K mg "first_to_press" s_first_to_press ["stock", "layers", "names"]) (C_stuck_jointly : Has P w K mg base 4 "stuck_jointly" ["stock", "lefts", "names"] (sp_stuck K C)) (C_names_without : Has P w K mg base 1 "names_without" ["names", "name"] (sp_wo K)) : Has P w K mg base 5 "first_to_press" ["stock", "layers", "names"] (sp_ftp K C) := by
  refine h.hasR sc_first_to_press (fun _ => rfl) fun f cdv A outer s H a vs Q E hr hp hv hk => ?_
  obtain ⟨⟨n, sts⟩, ls, ns⟩ := a
  obtain ⟨hp1, hp2⟩ := hp
  replace hp1 : LsOk ls := hp1
  replace hp2 : NmOk sts ns := hp2
  rcases hv with _ | ⟨hx, _ | ⟨hl, _ | ⟨hn, _ | _⟩⟩⟩
  rename_i x xl xn
  replace hx : Is K H (stockC K C (n : Int) sts) x := hx
  replace hl : Is K H (.L (tsD ls)) xl := hl
  replace hn : Is K H (.U (tsD ns)) xn := hn
  have sc := sc_first_to_press
  refine ⟨_, (pss_cons (ps_for PassesOwn.never rfl (pi_tup_k (K := K) (pv 2)) (pg_name (i := 3) sc.nd rfl (Or.inl rfl)) (pss_one (ps_if (pt_cmpR op_eq (pe_callB (cr_len_k (K := K)) (by rfl) T.b_len (by decide +kernel) (pa_cons (pe_callH C_stuck_jointly (hr.mono (by decide)) (pa_cons (pv 0) (pa_cons (pv 1) (pa_cons (pe_callH C_names_without (hr.mono (by decide)) (pa_cons (pv 2) (pa_cons (pv 3) pa_nil))) pa_nil)))) pa_nil)) pe_int (nomark _)) (pss_one (ps_ret (pv 3))) pss_nil)))
    (pss_one (ps_ret pe_non))), ?_⟩
  refine b_for (K := K) (G := H) (ds := tsD ns) (if_tup (ef_var (i := 2) rfl hn)) (Ex.refl H) (fun i σ' G' A' => ∃ y, σ' = [some x, some xl, some xn, y] ∧ Ex H A' ∧ (ns.take i).find? (fun n => decide (CP (stampOf sts) ls (wo ns n))) = none) (fun G1 A1 s1 => ⟨none, rfl, s1.a, rfl⟩) ?_ ?_
  · rintro G1 eg i d v σ' G' A' G2 A2 hd ⟨y, rfl, ea, hno⟩ e1 e2 s2 hv
    obtain ⟨m, hm, rfl⟩ := tsD_at hd
    obtain rfl : v = V.str (S m) := hv
    have hnx := find_nx hm hno
    have E2 : Ex H A2 := ea.trans s2.a
    refine a_when1 (K := K) (b := decide (CP (stampOf sts) ls (wo ns m))) (et1 (Er.to (er_op (er_cb (era_cons (er_call ((n, sts), ls, wo ns m) (era_cons (er_var rfl (hx.mono E2)) (era_cons (er_var rfl (hl.mono E2)) (era_cons (er_call (ns, m) (era_cons (er_var rfl (hn.mono E2)) (era_cons (er_v rfl) era_nil)) rfl hp2.few) era_nil))) rfl ⟨hp1, hp2.wo m⟩) era_nil) rc_lenUd) er_c ro_eqI) ?_)) (fun hb A3 e3 => ?_) fun hb A3 e3 => ?_
    · refine congrArg Dd.b (decide_eq_decide.mpr ?_)
      rw [tsD, List.length_map]
      show ((stuckS sts ls (wo ns m)).length : Int) = 0 ↔ stuckS sts ls (wo ns m) = []
      rw [← List.length_eq_zero_iff]
      omega
    · rw [if_pos hb] at hnx
      refine a_rete (K := K) (er_v rfl) ?_ (E2.trans e3) hk
      show Dd.s (S m) = Dd.v (nameO (lowM sts ls ns))
      rw [lowM, find_tk hnx]
      rfl
    · rw [if_neg (by rw [hb]; exact Bool.false_ne_true)] at hnx
      exact ⟨G2, ⟨_, rfl, E2.trans e3, hnx⟩, e1.trans s2.g, s2.v.trans e3⟩
  · rintro σ' G' A' eg ev ⟨y, rfl, ea, hno⟩
    rw [List.length_map, List.take_length] at hno
    refine a_rete (K := K) er_c ?_ ea hk
    show Dd.v V.non = Dd.v (nameO (lowM sts ls ns))
    rw [lowM, hno]
    rfl
end
end Mi

set_option maxHeartbeats 4000000
namespace Mi
open PySem PySem.Spec PyProof.Rows L2 Evl
local macro_rules | `(tactic| walk_at "side") => `(tactic| (first | assumption | omega | exact rfl | decide | (simp only [List.length_cons, List.length_nil, List.length_map, List.length_append, List.length_replicate] <;> omega)))
local macro_rules | `(tactic| walk_at "ro") => `(tactic| (first
  | with_reducible exact ro_I0
  | with_reducible exact ro_1018
  | with_reducible exact ro_neC
  | with_reducible exact ro_eqC
  | with_reducible exact ro_neI
  | with_reducible exact ro_eqI
  | with_reducible exact ro_neB
  | with_reducible exact ro_eqB
  | ((with_reducible apply ro_mod); (walk_at "side"))
  | ((with_reducible apply ro_div) <;> (walk_at "side"))
  | ((with_reducible apply ro_divW) <;> (walk_at "side"))
  | with_reducible exact ro_1012
  | with_reducible exact ro_1015
  | ((with_reducible apply ro_mulL) <;> (walk_at "side"))
  | ((with_reducible apply ro_mulR) <;> (walk_at "side"))
  | ((with_reducible apply ro_addC); (walk_at "side"))
  | ((with_reducible apply ro_ixC) <;> (walk_at "side"))
  | ((with_reducible apply ro_ixI) <;> (walk_at "side"))
  | ((with_reducible apply ro_ixIN) <;> (walk_at "side"))
  | ((with_reducible apply ro_ixT2) <;> (walk_at "side"))
  | ((with_reducible apply ro_ixG) <;> (walk_at "side"))
  | ((with_reducible apply ro_eq); exact rfl)
  | ((with_reducible apply ro_ne); exact rfl)
  | with_reducible exact ro_isN
  | with_reducible exact ro_notN
  | with_reducible exact ro_eqL
  | with_reducible exact ro_neL
  | with_reducible exact ro_eqU
  | ((with_reducible apply ro_cat); (walk_at "side"))
  | with_reducible exact ro_inLi
  | with_reducible exact ro_inNi
  | with_reducible exact ro_inUi
  | ((with_reducible apply ro_inL) <;> (walk_at "side"))
  | ((with_reducible apply ro_inN) <;> (walk_at "side"))
  | ((with_reducible apply ro_inU) <;> (walk_at "side"))))
local macro_rules | `(tactic| walk_at "rc") => `(tactic| (first
  | with_reducible exact rc_int
  | with_reducible exact rc_intB
  | with_reducible exact rc_max2
  | ((with_reducible apply rc_lenC); (walk_at "side"))
  | with_reducible exact rc_lenI
  | with_reducible exact rc_lenT
  | with_reducible exact rc_lenIN
  | with_reducible exact rc_lenTN
  | with_reducible exact rc_lenL
  | with_reducible exact rc_lenN
  | with_reducible exact rc_lenU
  | with_reducible exact rc_listL
  | with_reducible exact rc_listU
  | with_reducible exact rc_tupL
  | with_reducible exact rc_tupN
  | ((with_reducible apply rc_isi_int); decide +kernel)
  | ((with_reducible apply rc_isi_str); decide +kernel)
  | ((with_reducible apply rc_isi_bl); decide +kernel)
  | ((with_reducible apply rc_isi_non); decide +kernel)
  | ((with_reducible apply rc_isi_u); decide +kernel)
  | ((with_reducible apply rc_isi_l); decide +kernel)))
local macro_rules | `(tactic| walk_at "er") => `(tactic| (first
  | ((with_reducible apply er_var); (exact rfl); assumption)
  | ((with_reducible apply er_v); exact rfl)
  | with_reducible exact er_c
  | ((with_reducible apply er_pick); (walk_at "er"); (walk_at "er"); (walk_at "er"))
  | ((with_reducible apply er_op); (walk_at "er"); (walk_at "er"); (walk_at "ro"))
  | ((with_reducible apply er_cb); (walk_at "era"); (walk_at "rc"))
  | ((with_reducible apply er_lst'); (walk_at "era"); (exact rfl); (walk_at "side"))
  | ((with_reducible apply er_tup'); (walk_at "era"); (exact rfl); (walk_at "side"))
  | ((with_reducible apply er_notV); (walk_at "er"))
  | ((with_reducible apply er_andV); (walk_at "er"); (intro _; (walk_at "er")))
  | ((with_reducible apply er_orV); (walk_at "er"); (intro _; (walk_at "er")))
  | ((with_reducible apply er_ite); (walk_at "et"); (intro _; (walk_at "er")); (intro _; (walk_at "er")))))
local macro_rules | `(tactic| walk_at "era") => `(tactic| (first
  | with_reducible exact era_nil
  | ((with_reducible apply era_cons); (walk_at "er"); (walk_at "era"))))
local macro_rules | `(tactic| walk_at "et") => `(tactic| (first
  | ((with_reducible apply et_an); (walk_at "et"); (intro _; (walk_at "et")))
  | ((with_reducible apply et_orr); (walk_at "et"); (intro _; (walk_at "et")))
  | ((with_reducible apply et_nt); (walk_at "et"))
  | ((with_reducible apply et1); (walk_at "er"))
  | ((with_reducible apply et2); (walk_at "er"))))

section
variable {P : Program} {w : World} {K : PySem.W.Frag} {mg : Str → Option Value} {base : Heap}
/-! ### the order itself -/
def orderD : Option (List (List Nat)) → Dd
  | none => .v .non
  | some r => .U (tsD r)
def agreeAll (sts ps : List (List Nat × List Nat)) : Bool := ps.all fun p => agreeM p.1 (leftG sts p.2)
def orderM (sts ps : List (List Nat × List Nat)) : Option (List (List Nat)) :=
  if stuckS sts (seenM ps) (nmV sts) ≠ [] then none else if agreeAll sts ps = true then some (orderG (stampOf sts) (seenM ps) (nmV sts).length (nmV sts)) else none
theorem wo_cp {st : List Nat → List Nat} {ls ns : List (List Nat)} {n : List Nat} (h : ns.find? (fun n => decide (CP st ls (wo ns n))) = some n) : CP st ls (wo ns n) := by
  have := List.find?_some h
  simpa using this
abbrev s_common_order : Stmt := topS 37
theorem sc_common_order : FnScope ["stock", "pairs", "layers", "row", "rest", "name", "start", "seen"] ["stock", "pairs"] (defScope s_common_order) := ⟨rfl, rfl, rfl, by decide +kernel, rfl, by decide +kernel, by decide +kernel⟩

abbrev sp_co (K : PySem.W.Frag) (C : Addr) : Sp := spR K (fun a : (Nat × List (List Nat × List Nat)) × (Bool × Bool) × List (List Nat × List Nat) => StOk a.1.1 a.1.2 ∧ PsOk a.1.1 a.2.2) (fun a => [stockC K C (a.1.1 : Int) a.1.2, gpD a.2.1.1 a.2.1.2 a.2.2]) fun a => orderD (orderM a.1.2 a.2.2)
theorem has_common_order {C p_nm f_nm : Addr} {fdN : FuncData} (T : Txt K mg) (TS : StTxt K mg C) (h : At K mg "common_order" s_common_order ["stock", "pairs"]) (C_common_stuck : Has P w K mg base 5 "common_stuck" ["stock", "pairs"] (sp_cs K C)) (C_agree : Has P w K mg base 1 "agree" ["one", "two"] (sp_agree K)) (C_left_of_all : Has P w K mg base 2 "left_of_all" ["stock", "seen"] (sp_left K C)) (C_first_to_press : Has P w K mg base 5 "first_to_press" ["stock", "layers", "names"] (sp_ftp K C)) (C_names_without : Has P w K mg base 1 "names_without" ["names", "name"] (sp_wo K)) (P_names : PropOf K C "names" p_nm f_nm) (F_names : FnOk P w K mg base CX0 1 f_nm fdN ["self"] (sp_names K C)) (b_names : Binds K fdN ["self"] []) : Has P w K mg base 6 "common_order" ["stock", "pairs"] (sp_co K C) := by
  refine h.hasR sc_common_order (fun _ => rfl) fun f cdv A outer s H a vs Q E hr hp hv hk => ?_
  obtain ⟨⟨n, sts⟩, ⟨b1, b2⟩, ps⟩ := a
  obtain ⟨hp1, hp2⟩ := hp
  replace hp1 : StOk n sts := hp1
  replace hp2 : PsOk n ps := hp2
  rcases hv with _ | ⟨hx, _ | ⟨hl, _ | _⟩⟩
  rename_i x xp
  replace hx : Is K H (stockC K C (n : Int) sts) x := hx
  replace hl : Is K H (gpD b1 b2 ps) xp := hl
  have sc := sc_common_order
  have few := hp2.few
  refine ⟨_, (pss_cons (ps_if (pt_cmpR op_gt (pe_callB (cr_len_k (K := K)) (by rfl) T.b_len (by decide +kernel) (pa_cons (pe_callH C_common_stuck (hr.mono (by decide)) (pa_cons (pv 0) (pa_cons (pv 1) pa_nil))) pa_nil)) pe_int (nomark _)) (pss_one (ps_ret pe_non)) pss_nil)
    (pss_cons (ps_if (pt_not (pt_val (pe_callB (cr_all_k (K := K)) (by rfl) T.b_all (by decide +kernel) (pa_cons (pe_lc (own := [("start", 6), ("seen", 7)]) (g := gSeq K 2 (gCons (gName 6) (gCons (gName 7) gNil))) (by rfl) sc.nd (pi_seqV (K := K) (pv 1)) (blkOk_by (N := ["stock", "pairs", "layers", "row", "rest", "name", "start", "seen"]) (sc := defScope s_common_order) (own := [("start", 6), ("seen", 7)]) (by decide +kernel)) (fun _ _ _ _ _ => (pg_seq (K := K) rfl (pgs_cons (pg_name (i := 6) sc.nd rfl (Or.inl rfl)) (pgs_cons (pg_name (i := 7) sc.nd rfl (Or.inl rfl)) pgs_nil)))) (fun _ _ _ _ _ => pts_nil) (fun _ _ _ _ _ => (pe_callH C_agree (hr.mono (by decide)) (pa_cons (pv 6) (pa_cons (pe_callH C_left_of_all (hr.mono (by decide)) (pa_cons (pv 0) (pa_cons (pv 7) pa_nil))) pa_nil))))) pa_nil)))) (pss_one (ps_ret pe_non)) pss_nil)
    (pss_cons (ps_setLc (i := 2) (own := [("start", 6), ("seen", 7)]) (g := gSeq K 2 (gCons (gName 6) (gCons (gName 7) gNil))) (by rfl) sc.nd rfl rfl (sw_true rfl rfl rfl (by decide +kernel)) (pi_seqV (K := K) (pv 1)) (blkOk_by (N := ["stock", "pairs", "layers", "row", "rest", "name", "start", "seen"]) (sc := defScope s_common_order) (own := [("start", 6), ("seen", 7)]) (by decide +kernel)) (fun _ _ _ _ _ => (pg_seq (K := K) rfl (pgs_cons (pg_name (i := 6) sc.nd rfl (Or.inl rfl)) (pgs_cons (pg_name (i := 7) sc.nd rfl (Or.inl rfl)) pgs_nil)))) (fun _ _ _ _ _ => pts_nil) (fun _ _ _ _ _ => (pv 7)))
    (pss_cons (ps_set (i := 3) sc.nd rfl (Or.inl rfl) (pe_tup pa_nil))
    (pss_cons (ps_set (i := 4) sc.nd rfl (Or.inl rfl) (pe_prop (pv 0) TS.cl P_names F_names (hr.mono (by decide)) b_names .nil pass0 rfl))
    (pss_cons (ps_while PassesOwn.never (pt_cmpR op_gt (pe_callB (cr_len_k (K := K)) (by rfl) T.b_len (by decide +kernel) (pa_cons (pv 4) pa_nil)) pe_int (nomark _)) (pss_cons (ps_set (i := 5) sc.nd rfl (Or.inl rfl) (pe_callH C_first_to_press (hr.mono (by decide)) (pa_cons (pv 0) (pa_cons (pv 2) (pa_cons (pv 4) pa_nil)))))
    (pss_cons (ps_set (i := 3) sc.nd rfl (Or.inl rfl) (pe_op (op_catU_k (K := K)) (pv 3) (pe_tup (pa_cons (pv 5) pa_nil))))
    (pss_one (ps_set (i := 4) sc.nd rfl (Or.inl rfl) (pe_callH C_names_without (hr.mono (by decide)) (pa_cons (pv 4) (pa_cons (pv 5) pa_nil))))))))
    (pss_one (ps_ret (pv 3))))))))), ?_⟩
  refine a_when (K := K) (b := !decide (stuckS sts (seenM ps) (nmV sts) = [])) (et1 (Er.to (er_op (er_cb (era_cons (er_call ((n, sts), (b1, b2), ps) (era_cons (er_var rfl hx) (era_cons (er_var rfl hl) era_nil)) rfl ⟨hp1, hp2⟩) era_nil) rc_lenUd) er_c ro_I0) ?_)) (fun hb H1 e1 => ?_) fun hb H1 e1 => ?_
  · refine congrArg Dd.b ?_
    show decide ((0 : Int) < ((tsD (stuckS sts (seenM ps) (nmV sts))).length : Int)) = _
    rw [tsD, List.length_map]
    cases h0 : stuckS sts (seenM ps) (nmV sts) with
    | nil => rfl
    | cons a b =>
      rw [List.length_cons]
      have : (0 : Int) < ((b.length + 1 : Nat) : Int) := by omega
      simp [this]
  · refine a_rete (K := K) er_c ?_ e1 hk
    show Dd.v V.non = orderD (orderM sts ps)
    unfold orderM
    rw [if_pos (by simpa using hb)]
    rfl
  have hcp : stuckS sts (seenM ps) (nmV sts) = [] := by simpa using hb
  refine a_when (K := K) (b := !agreeAll sts ps) (et_nt (et2 (Er.to (er_cb (era_cons (Er.as (Ef.er (ef_lc (K := K) (G := H1) (its := ps) (inj := pD b2) (vs := [6, 7]) (fun _ => true) (fun p => Dd.b (agreeM p.1 (leftG sts p.2))) (if_sq (i := 1) rfl (hl.mono e1)) (by omega) (fun i p v G' A' g1 g2 hi hv => ?_))) fun Hx v z => Is.N2n (is_cast z (congrArg Dd.N bD_eq))) era_nil) rc_allBN) ?_))) (fun hb H2 e2 => ?_) fun hb H2 e2 => ?_
  · have hpl := hp2.ln p (List.mem_of_getElem? hi)
    refine ⟨[some x, some xp, none, none, none, none, some (.str (S p.1)), some (.str (S p.2))], fun Q q => g_pair (sq_is b2 _) (hv.mono g2) fun v1 v2 h1 h2 => ?_, rfl, fun H2 e Q q => q H2 (Ex.refl _), fun _ => ef_flat (er_call (p.1, leftG sts p.2) (era_cons (er_v rfl) (era_cons (er_call (n, sts, p.2) (era_cons (er_var rfl (hx.mono (e1.trans g1))) (era_cons (er_v rfl) era_nil)) rfl (by show StOk p.2.length sts; rw [hpl.2]; exact hp1)) era_nil)) rfl trivial)⟩
    obtain rfl : v1 = V.str (S p.1) := h1
    obtain rfl : v2 = V.str (S p.2) := h2
    exact q
  · rw [List.all_map]
    rfl
  · refine a_rete (K := K) er_c ?_ (e1.trans e2) hk
    show Dd.v V.non = orderD (orderM sts ps)
    unfold orderM
    rw [if_neg (by simp [hcp]), if_neg (by simpa using hb)]
    rfl
  have hag : agreeAll sts ps = true := by simpa using hb
  have E2 := e1.trans e2
  have hgoal : orderM sts ps = some (orderG (stampOf sts) (seenM ps) (nmV sts).length (nmV sts)) := by
    unfold orderM
    rw [if_neg (by simp [hcp]), if_pos hag]
  refine a_asg (K := K) (d := .L (tsD (seenM ps))) (Er.as (Ef.er (ef_lc (K := K) (G := H2) (its := ps) (inj := pD b2) (vs := [6, 7]) (fun _ => true) (fun p => Dd.s (S p.2)) (if_sq (i := 1) rfl (hl.mono E2)) (by omega) (fun i p v G' A' g1 g2 hi hv => ?_))) fun Hx v z => is_cast z.N2L (congrArg Dd.L seen_eq)) fun vl H3 e3 hls => ?_
  · refine ⟨[some x, some xp, none, none, none, none, some (.str (S p.1)), some (.str (S p.2))], fun Q q => g_pair (sq_is b2 _) (hv.mono g2) fun v1 v2 h1 h2 => ?_, rfl, fun H2 e Q q => q H2 (Ex.refl _), fun _ => ef_flat (er_v rfl)⟩
    obtain rfl : v1 = V.str (S p.1) := h1
    obtain rfl : v2 = V.str (S p.2) := h2
    exact q
  have E3 := E2.trans e3
  refine a_asg (K := K) (d := .u (vsl [])) (er_tup (vs := []) era_nil (by simp)) fun vr H4 e4 hr4 => ?_
  have E4 := E3.trans e4
  refine a_asg (K := K) (d := .U (tsD (nmV sts))) (er_names (er_var rfl (hx.mono E4)) hp1.few) fun vn H5 e5 hn5 => ?_
  have E5 := E4.trans e5
  refine ⟨fun m σ' H' => ∃ (r ns : List (List Nat)) (vr vn : V) (y : Option V), σ' = [some x, some xp, some vl, some vr, some vn, y, none, none] ∧ Ex H5 H' ∧ Is K H' (.u (vsl r)) vr ∧ Is K H' (.U (tsD ns)) vn ∧ NmOk sts ns ∧ CP (stampOf sts) (seenM ps) ns ∧ m = ns.length ∧ r.length + ns.length = (nmV sts).length ∧ r ++ orderG (stampOf sts) (seenM ps) ns.length ns = orderG (stampOf sts) (seenM ps) (nmV sts).length (nmV sts), ⟨_, [], nmV sts, vr, vn, none, rfl, Ex.refl _, hr4.mono e5, hn5, hp1.nm, hcp, rfl, by simp, rfl⟩, ?_⟩
  rintro m σ' H' ⟨r, ns, vr, vn, y, rfl, e, ir, inn, hok, hcn, rfl, hlen, hO⟩
  by_cases hne : ns = []
  · subst hne
    refine (show Et K _ _ H' false from et1 (er_op (er_cb (era_cons (er_var rfl inn) era_nil) rc_lenUd) er_c ro_I0)) H' (Ex.refl _) _ fun H6 e6 => ?_
    rw [if_neg Bool.false_ne_true]
    refine a_rete (K := K) (d := .U (tsD r)) (Er.as (er_var rfl (ir.mono e6)) fun Hx v z => by rw [← tsD_vsl]; exact Is.u2U z) ?_ ((E5.trans e).trans e6) hk
    show Dd.U (tsD r) = orderD (orderM sts ps)
    rw [hgoal, ← hO]
    show Dd.U (tsD r) = Dd.U (tsD (r ++ []))
    rw [List.append_nil]
  · obtain ⟨nm, hnm⟩ := low_one (st := stampOf sts) (ls := seenM ps) (size := n) hp2.siz (fun m hm => hp1.stl (hok.ok m hm)) hok.di hcn hne
    have hm := List.mem_of_find?_eq_some hnm
    have hwl := wo_len hok.di hm
    refine (show Et K _ _ H' true from et1 (Er.to (er_op (er_cb (era_cons (er_var rfl inn) era_nil) rc_lenUd) er_c ro_I0) (congrArg Dd.b (by
      show decide ((0 : Int) < ((tsD ns).length : Int)) = true
      rw [tsD, List.length_map]
      exact decide_eq_true (by omega))))) H' (Ex.refl _) _ fun H6 e6 => ?_
    rw [if_pos rfl]
    have E6 := (E5.trans e).trans e6
    refine ⟨_, fun σ2 H2 z => z, ?_⟩
    refine a_setv (K := K) (x := .str (S nm)) (Er.to (er_call ((n, sts), seenM ps, ns) (era_cons (er_var rfl (hx.mono E6)) (era_cons (er_var rfl (hls.mono (((e4.trans e5).trans e).trans e6))) (era_cons (er_var rfl (inn.mono e6)) era_nil))) rfl ⟨hp2.ls hp1.sz, hok⟩) (by show Dd.v (nameO (lowM sts (seenM ps) ns)) = _; rw [lowM, hnm]; rfl)) fun H7 e7 => ?_
    refine a_asg (K := K) (d := .u (vsl (r ++ [nm]))) (Er.to (er_op (er_var rfl (ir.mono (e6.trans e7))) (er_tup (vs := [.str (S nm)]) (era_cons (er_v rfl) era_nil) (by simp)) (ro_catU (by have := hp1.nm.few; rw [vsl_len]; simp; omega))) (by rw [vsl_app])) fun vr2 H8 e8 ir8 => ?_
    refine a_asg1 (K := K) (d := .U (tsD (wo ns nm))) (er_call (ns, nm) (era_cons (er_var rfl (inn.mono ((e6.trans e7).trans e8))) (era_cons (er_v rfl) era_nil)) rfl hok.few) fun vn2 H9 e9 in9 => ?_
    refine ⟨(wo ns nm).length, by omega, r ++ [nm], wo ns nm, vr2, vn2, some (.str (S nm)), rfl, (((e.trans e6).trans e7).trans e8).trans e9, ir8.mono e9, in9, hok.wo nm, wo_cp hnm, rfl, by rw [List.length_append, List.length_singleton]; omega, ?_⟩
    rw [← hO, ← hwl]
    conv => rhs; rw [orderG]
    rw [hnm, List.append_assoc]
    rfl
end
end Mi

set_option maxHeartbeats 4000000
namespace Mi
open PySem PySem.Spec PyProof.Rows L2 Evl
local macro_rules | `(tactic| walk_at "side") => `(tactic| (first | assumption | omega | exact rfl | decide | (simp only [List.length_cons, List.length_nil, List.length_map, List.length_append, List.length_replicate] <;> omega)))
local macro_rules | `(tactic| walk_at "ro") => `(tactic| (first
  | with_reducible exact ro_I0
  | with_reducible exact ro_1018
  | with_reducible exact ro_neC
  | with_reducible exact ro_eqC
  | with_reducible exact ro_neI
  | with_reducible exact ro_eqI
  | with_reducible exact ro_neB
  | with_reducible exact ro_eqB
  | ((with_reducible apply ro_mod); (walk_at "side"))
  | ((with_reducible apply ro_div) <;> (walk_at "side"))
  | ((with_reducible apply ro_divW) <;> (walk_at "side"))
  | with_reducible exact ro_1012
  | with_reducible exact ro_1015
  | ((with_reducible apply ro_mulL) <;> (walk_at "side"))
  | ((with_reducible apply ro_mulR) <;> (walk_at "side"))
  | ((with_reducible apply ro_addC); (walk_at "side"))
  | ((with_reducible apply ro_ixC) <;> (walk_at "side"))
  | ((with_reducible apply ro_ixI) <;> (walk_at "side"))
  | ((with_reducible apply ro_ixIN) <;> (walk_at "side"))
  | ((with_reducible apply ro_ixT2) <;> (walk_at "side"))
  | ((with_reducible apply ro_ixG) <;> (walk_at "side"))
  | ((with_reducible apply ro_eq); exact rfl)
  | ((with_reducible apply ro_ne); exact rfl)
  | with_reducible exact ro_isN
  | with_reducible exact ro_notN
  | with_reducible exact ro_eqL
  | with_reducible exact ro_neL
  | with_reducible exact ro_eqU
  | ((with_reducible apply ro_cat); (walk_at "side"))
  | with_reducible exact ro_inLi
  | with_reducible exact ro_inNi
  | with_reducible exact ro_inUi
  | ((with_reducible apply ro_inL) <;> (walk_at "side"))
  | ((with_reducible apply ro_inN) <;> (walk_at "side"))
  | ((with_reducible apply ro_inU) <;> (walk_at "side"))))
local macro_rules | `(tactic| walk_at "rc") => `(tactic| (first
  | with_reducible exact rc_int
  | with_reducible exact rc_intB
  | with_reducible exact rc_max2
  | ((with_reducible apply rc_lenC); (walk_at "side"))
  | with_reducible exact rc_lenI
  | with_reducible exact rc_lenT
  | with_reducible exact rc_lenIN
  | with_reducible exact rc_lenTN
  | with_reducible exact rc_lenL
  | with_reducible exact rc_lenN
  | with_reducible exact rc_lenU
  | with_reducible exact rc_listL
  | with_reducible exact rc_listU
  | with_reducible exact rc_tupL
  | with_reducible exact rc_tupN
  | ((with_reducible apply rc_isi_int); decide +kernel)
  | ((with_reducible apply rc_isi_str); decide +kernel)
  | ((with_reducible apply rc_isi_bl); decide +kernel)
  | ((with_reducible apply rc_isi_non); decide +kernel)
  | ((with_reducible apply rc_isi_u); decide +kernel)
  | ((with_reducible apply rc_isi_l); decide +kernel)))
local macro_rules | `(tactic| walk_at "er") => `(tactic| (first
  | ((with_reducible apply er_var); (exact rfl); assumption)
  | ((with_reducible apply er_v); exact rfl)
  | with_reducible exact er_c
  | ((with_reducible apply er_pick); (walk_at "er"); (walk_at "er"); (walk_at "er"))
  | ((with_reducible apply er_op); (walk_at "er"); (walk_at "er"); (walk_at "ro"))
  | ((with_reducible apply er_cb); (walk_at "era"); (walk_at "rc"))
  | ((with_reducible apply er_lst'); (walk_at "era"); (exact rfl); (walk_at "side"))
  | ((with_reducible apply er_tup'); (walk_at "era"); (exact rfl); (walk_at "side"))
  | ((with_reducible apply er_notV); (walk_at "er"))
  | ((with_reducible apply er_andV); (walk_at "er"); (intro _; (walk_at "er")))
  | ((with_reducible apply er_orV); (walk_at "er"); (intro _; (walk_at "er")))
  | ((with_reducible apply er_ite); (walk_at "et"); (intro _; (walk_at "er")); (intro _; (walk_at "er")))))
local macro_rules | `(tactic| walk_at "era") => `(tactic| (first
  | with_reducible exact era_nil
  | ((with_reducible apply era_cons); (walk_at "er"); (walk_at "era"))))
local macro_rules | `(tactic| walk_at "et") => `(tactic| (first
  | ((with_reducible apply et_an); (walk_at "et"); (intro _; (walk_at "et")))
  | ((with_reducible apply et_orr); (walk_at "et"); (intro _; (walk_at "et")))
  | ((with_reducible apply et_nt); (walk_at "et"))
  | ((with_reducible apply et1); (walk_at "er"))
  | ((with_reducible apply et2); (walk_at "er"))))

section
variable {P : Program} {w : World} {K : PySem.W.Frag} {mg : Str → Option Value} {base : Heap}
/-! ### texts compared -/
abbrev s__law_texts : Stmt := topS 54
theorem sc__law_texts : FnScope ["told", "due", "k"] ["told", "due"] (defScope s__law_texts) := ⟨rfl, rfl, rfl, by decide +kernel, rfl, by decide +kernel, by decide +kernel⟩

theorem ro_ixSq {b : Bool} {ds : List Dd} {i : Nat} {d : Dd} (hd : ds[i]? = some d) : Ro K (rIxE K) (sqD b ds) (.i (i : Int)) d := ro_ixE (sq_is b ds) hd
abbrev sp__law_texts (K : PySem.W.Frag) : Sp := spR K (fun a : List (List Nat) × Bool × List (List Nat) => a.1.length ≤ 1000 ∧ a.2.2.length ≤ 1000) (fun a => [.U (tsD a.1), sqD a.2.1 (tsD a.2.2)]) fun a => .b (decide (a.1 = a.2.2))
theorem has__law_texts (T : Txt K mg) (h : At K mg "_law_texts" s__law_texts ["told", "due"]) : Has P w K mg base 1 "_law_texts" ["told", "due"] (sp__law_texts K) := by
  refine h.hasR sc__law_texts (fun _ => rfl) fun f cdv A outer s H a vs Q E hr hp hv hk => ?_
  obtain ⟨xs, b, ys⟩ := a
  obtain ⟨h1, h2⟩ := hp
  replace h1 : xs.length ≤ 1000 := h1
  replace h2 : ys.length ≤ 1000 := h2
  rcases hv with _ | ⟨hx, _ | ⟨hy, _ | _⟩⟩
  rename_i x y
  replace hx : Is K H (.U (tsD xs)) x := hx
  replace hy : Is K H (sqD b (tsD ys)) y := hy
  have sc := sc__law_texts
  have lx : (tsD xs).length = xs.length := by rw [tsD, List.length_map]
  have ly : (tsD ys).length = ys.length := by rw [tsD, List.length_map]
  refine ⟨_, (pss_cons (ps_if (PW.pt (pw_or (pt_not (pt_val (pe_callB (cr_isi_k (K := K)) (by rfl) T.b_isinstance (by decide +kernel) (pa_cons (pv 0) (pa_cons (pe_bltn (v := .ty "tuple") (by rfl) T.b_tuple (by decide +kernel) rfl) pa_nil))))) (pw_or1 (pt_cmpR op_ne (pe_callB (cr_len_k (K := K)) (by rfl) T.b_len (by decide +kernel) (pa_cons (pv 0) pa_nil)) (pe_callB (cr_len_k (K := K)) (by rfl) T.b_len (by decide +kernel) (pa_cons (pv 1) pa_nil)) (nomark _))))) (pss_one (ps_ret pe_bl)) pss_nil)
    (pss_cons (ps_for PassesOwn.never rfl (pi_range1 (by rfl) T.b_range (pa_cons (pe_callB (cr_len_k (K := K)) (by rfl) T.b_len (by decide +kernel) (pa_cons (pv 1) pa_nil)) pa_nil)) (pg_name (i := 2) sc.nd rfl (Or.inl rfl)) (pss_one (ps_if (PW.pt (pw_or (pt_not (pt_val (pe_callB (cr_isi_k (K := K)) (by rfl) T.b_isinstance (by decide +kernel) (pa_cons (pe_ix (ix_tup_k (K := K)) (pv 0) (pv 2) (fun _ _ => rfl)) (pa_cons (pe_bltn (v := .ty "str") (by rfl) T.b_str (by decide +kernel) rfl) pa_nil))))) (pw_or1 (pt_cmpR op_ne (pe_ix (ix_tup_k (K := K)) (pv 0) (pv 2) (fun _ _ => rfl)) (pe_ix (ix_seq_k (K := K)) (pv 1) (pv 2) (fun _ _ => rfl)) (nomark _))))) (pss_one (ps_ret pe_bl)) pss_nil)))
    (pss_one (ps_ret pe_bl)))), ?_⟩
  refine a_when (K := K) (b := !true || !decide ((xs.length : Int) = (ys.length : Int))) (et_orr (et_nt (et2 (er_cb (era_cons (er_var rfl hx) (era_cons er_c era_nil)) (rc_isi (b := true) (.type "tuple") (fun _ _ z => ty_Ud z) (kit_ty (by decide +kernel)))))) fun _ => et1 (er_op (er_cb (era_cons (er_var rfl hx) era_nil) (by rw [← lx]; exact rc_lenUd)) (er_cb (era_cons (er_var rfl hy) era_nil) (by rw [← ly]; exact rc_lenE (sq_is b _))) ro_neI)) (fun hb H1 e1 => ?_) fun hb H1 e1 => ?_
  · refine a_rete (K := K) er_c ?_ e1 hk
    have : ¬ xs = ys := fun z => by rw [z] at hb; simp at hb
    show Dd.b false = Dd.b (decide (xs = ys))
    rw [decide_eq_false this]
  have hlen : xs.length = ys.length := by
    have q : (xs.length : Int) = (ys.length : Int) := by simpa using hb
    omega
  refine b_forR1 (K := K) (n := ys.length) (era_cons (er_cb (era_cons (er_var rfl (hy.mono e1)) era_nil) (by rw [← ly]; exact rc_lenE (sq_is b _))) era_nil) (by omega) (fun i σ' H' => ∃ z, σ' = [some x, some y, z] ∧ Ex H H' ∧ xs.take i = ys.take i) (fun H2 e2 => ⟨none, rfl, e1.trans e2, rfl⟩) ?_ ?_
  · rintro i σ' H' hi ⟨z, rfl, e, hM⟩
    have gx : (tsD xs)[i]? = some (Dd.s (S (xs.getD i []))) := by
      rw [tsD, List.getElem?_map, List.getElem?_eq_getElem (by omega), List.getD_eq_getElem?_getD, List.getElem?_eq_getElem (by omega)]
      rfl
    have gy : (tsD ys)[i]? = some (Dd.s (S (ys.getD i []))) := by
      rw [tsD, List.getElem?_map, List.getElem?_eq_getElem (by omega), List.getD_eq_getElem?_getD, List.getElem?_eq_getElem (by omega)]
      rfl
    refine a_when1 (K := K) (b := !true || !decide (xs.getD i [] = ys.getD i [])) (et_orr (et_nt (et2 (er_cb (era_cons (er_op (er_var rfl (hx.mono e)) (er_v rfl) (ro_ixUd gx)) (era_cons er_c era_nil)) (rc_isi_str (b := true) (by decide +kernel))))) fun _ => et1 (er_op (er_op (er_var rfl (hx.mono e)) (er_v rfl) (ro_ixUd gx)) (er_op (er_var rfl (hy.mono e)) (er_v rfl) (ro_ixSq gy)) ro_neC)) (fun hb H3 e3 => ?_) fun hb H3 e3 => ?_
    · refine a_rete (K := K) er_c ?_ (e.trans e3) hk
      have : ¬ xs = ys := fun z => by rw [z] at hb; simp at hb
      show Dd.b false = Dd.b (decide (xs = ys))
      rw [decide_eq_false this]
    · refine ⟨some (.int (i : Int)), rfl, e.trans e3, ?_⟩
      have hd : xs.getD i [] = ys.getD i [] := by simpa using hb
      rw [List.getD_eq_getElem?_getD, List.getD_eq_getElem?_getD, List.getElem?_eq_getElem (by omega), List.getElem?_eq_getElem (by omega)] at hd
      rw [List.take_add_one, List.take_add_one, hM, List.getElem?_eq_getElem (by omega), List.getElem?_eq_getElem (by omega)]
      simp only [Option.getD_some] at hd
      rw [hd]
  · rintro σ' H' ⟨z, rfl, e, hM⟩
    refine a_rete (K := K) er_c ?_ e hk
    have : xs = ys := by
      rw [List.take_of_length_le (by omega), List.take_length] at hM
      exact hM
    show Dd.b true = Dd.b (decide (xs = ys))
    rw [decide_eq_true this]
/-! ### all stamps pressed, one after the other -/
def pressE (sts : List (List Nat × List Nat)) (x : List Nat) : List Nat := sts.foldl (fun l p => pressM l p.2) x
theorem pressE_next {sts : List (List Nat × List Nat)} {x : List Nat} {i : Nat} {p : List Nat × List Nat} (h : sts[i]? = some p) : pressE (sts.take (i + 1)) x = pressM (pressE (sts.take i) x) p.2 := by
  unfold pressE
  rw [List.take_add_one, h, List.foldl_append]
  rfl
abbrev eD (p : List Nat × List Nat) : Dd := Dd.L [.s (S p.1), .s (S p.2)]
theorem stD_eq {st : List (List Nat × List Nat)} : stD st = st.map eD := rfl
abbrev s__law_pressed : Stmt := topS 48
theorem sc__law_pressed : FnScope ["layer", "entries", "held", "entry"] ["layer", "entries"] (defScope s__law_pressed) := ⟨rfl, rfl, rfl, by decide +kernel, rfl, by decide +kernel, by decide +kernel⟩

abbrev sp__law_pressed (K : PySem.W.Frag) : Sp := spR K (fun a : List Nat × List (List Nat × List Nat) => a.1.length ≤ 1000 ∧ ∀ p ∈ a.2, p.2.length = a.1.length) (fun a => [.s (S a.1), .L (stD a.2)]) fun a => .s (S (pressE a.2 a.1))
theorem has__law_pressed (T : Txt K mg) (h : At K mg "_law_pressed" s__law_pressed ["layer", "entries"]) (C__law_press : Has P w K mg base 1 "_law_press" ["under", "over"] (sp__law_press K)) : Has P w K mg base 2 "_law_pressed" ["layer", "entries"] (sp__law_pressed K) := by
  refine h.hasR sc__law_pressed (fun _ => rfl) fun f cdv A outer s H a vs Q E hr hp hv hk => ?_
  obtain ⟨layer, sts⟩ := a
  obtain ⟨h1, h2⟩ := hp
  replace h1 : layer.length ≤ 1000 := h1
  replace h2 : ∀ p ∈ sts, p.2.length = layer.length := h2
  rcases hv with _ | ⟨rfl, _ | ⟨hs, _ | _⟩⟩
  rename_i x
  replace hs : Is K H (.L (stD sts)) x := hs
  have sc := sc__law_pressed
  refine ⟨_, (pss_cons (ps_set (i := 2) sc.nd rfl (Or.inl rfl) (pv 0))
    (pss_cons (ps_for PassesOwn.never rfl (pi_list_k (K := K) (pv 1)) (pg_name (i := 3) sc.nd rfl (Or.inl rfl)) (pss_one (ps_set (i := 2) sc.nd rfl (Or.inl rfl) (pe_callH C__law_press (hr.mono (by decide)) (pa_cons (pv 2) (pa_cons (pe_ix (ix_list_k (K := K)) (pv 3) pe_int (fun _ _ => rfl)) pa_nil))))))
    (pss_one (ps_ret (pv 2))))), ?_⟩
  refine a_setv (K := K) (x := .str (S layer)) (er_v rfl) fun H1 e1 => ?_
  refine b_for (K := K) (G := H1) (ds := stD sts) (if_list (ef_var (i := 1) rfl (hs.mono e1))) (Ex.refl H1) (fun i σ' G' A' => ∃ y, σ' = [some (.str (S layer)), some x, some (.str (S (pressE (sts.take i) layer))), y] ∧ Ex H1 A' ∧ (pressE (sts.take i) layer).length = layer.length) (fun G1 A1 s1 => ⟨none, rfl, s1.a, rfl⟩) ?_ ?_
  · rintro G1 eg i d v σ' G' A' G2 A2 hd ⟨y, rfl, ea, hL⟩ e2 e3 s2 hv
    obtain ⟨p, hp1, rfl⟩ := stD_of hd
    have hl := h2 p (List.mem_of_getElem? hp1)
    refine a_setv1 (K := K) (x := .str (S (pressM (pressE (sts.take i) layer) p.2))) (er_call (pressE (sts.take i) layer, p.2) (era_cons (er_v rfl) (era_cons (er_place (i := 1) (ds := [.s (S p.1), .s (S p.2)]) (er_var rfl (hv.mono s2.v)) er_c rfl) era_nil)) rfl ⟨by show (pressE (sts.take i) layer).length = p.2.length; omega, by show (pressE (sts.take i) layer).length ≤ 1000; omega⟩) fun A3 ea3 => ?_
    refine ⟨G2, ⟨some v, ?_, (ea.trans s2.a).trans ea3, ?_⟩, e2.trans s2.g, s2.v.trans ea3⟩
    · rw [pressE_next hp1]
      rfl
    · rw [pressE_next hp1, pressM_len (by omega), hL]
  · rintro σ' G' A' eg ev ⟨y, rfl, ea, hL⟩
    refine a_rete (K := K) (er_v rfl) ?_ (e1.trans ea) hk
    rw [stD, List.length_map, List.take_length]
/-! ### do the starts agree with what is left -/
abbrev s__law_starts_agree : Stmt := topS 58
theorem sc__law_starts_agree : FnScope ["entries", "sheets", "sheet", "left", "entry"] ["entries", "sheets"] (defScope s__law_starts_agree) := ⟨rfl, rfl, rfl, by decide +kernel, rfl, by decide +kernel, by decide +kernel⟩

abbrev shD (ps : List (List Nat × List Nat)) : Dd := .L (stD ps)
abbrev sp__law_starts_agree (K : PySem.W.Frag) : Sp := spR K (fun a : Nat × List (List Nat × List Nat) × List (List Nat × List Nat) => StOk a.1 a.2.1 ∧ PsOk a.1 a.2.2) (fun a => [.L (stD a.2.1), .L (stD a.2.2)]) fun a => .b (agreeAll a.2.1 a.2.2)
theorem has__law_starts_agree (T : Txt K mg) (h : At K mg "_law_starts_agree" s__law_starts_agree ["entries", "sheets"]) (C__law_free : Has P w K mg base 1 "_law_free" ["left", "cover"] (sp__law_free K)) (C__law_agree : Has P w K mg base 1 "_law_agree" ["left", "right"] (sp__law_agree K)) : Has P w K mg base 2 "_law_starts_agree" ["entries", "sheets"] (sp__law_starts_agree K) := by
  refine h.hasR sc__law_starts_agree (fun _ => rfl) fun f cdv A outer s H a vs Q E hr hp hv hk => ?_
  obtain ⟨n, sts, ps⟩ := a
  obtain ⟨h1, h2⟩ := hp
  replace h1 : StOk n sts := h1
  replace h2 : PsOk n ps := h2
  rcases hv with _ | ⟨hs, _ | ⟨hps, _ | _⟩⟩
  rename_i x xp
  replace hs : Is K H (.L (stD sts)) x := hs
  replace hps : Is K H (.L (stD ps)) xp := hps
  have sc := sc__law_starts_agree
  have sz := h1.sz
  refine ⟨_, (pss_cons (ps_for PassesOwn.never rfl (pi_list_k (K := K) (pv 1)) (pg_name (i := 2) sc.nd rfl (Or.inl rfl)) (pss_cons (ps_set (i := 3) sc.nd rfl (Or.inl rfl) (pe_ix (ix_list_k (K := K)) (pv 2) pe_int (fun _ _ => rfl)))
    (pss_cons (ps_for PassesOwn.never rfl (pi_list_k (K := K) (pv 0)) (pg_name (i := 4) sc.nd rfl (Or.inl rfl)) (pss_one (ps_set (i := 3) sc.nd rfl (Or.inl rfl) (pe_callH C__law_free (hr.mono (by decide)) (pa_cons (pv 3) (pa_cons (pe_ix (ix_list_k (K := K)) (pv 4) pe_int (fun _ _ => rfl)) pa_nil))))))
    (pss_one (ps_if (pt_not (pt_val (pe_callH C__law_agree (hr.mono (by decide)) (pa_cons (pe_ix (ix_list_k (K := K)) (pv 2) pe_int (fun _ _ => rfl)) (pa_cons (pv 3) pa_nil))))) (pss_one (ps_ret pe_bl)) pss_nil)))))
    (pss_one (ps_ret pe_bl))), ?_⟩
  refine b_for (K := K) (G := H) (ds := stD ps) (if_list (ef_var (i := 1) rfl hps)) (Ex.refl H) (fun i σ' G' A' => ∃ y1 y2 y3, σ' = [some x, some xp, y1, y2, y3] ∧ Ex H A' ∧ (ps.take i).all (fun p => agreeM p.1 (leftG sts p.2)) = true) (fun G1 A1 s1 => ⟨none, none, none, rfl, s1.a, rfl⟩) ?_ ?_
  · rintro G1 eg i d v σ' G' A' G2 A2 hd ⟨y1, y2, y3, rfl, ea, hM⟩ e2 e3 s2 hv
    obtain ⟨p, hp1, rfl⟩ := stD_of hd
    have hpl := h2.ln p (List.mem_of_getElem? hp1)
    have hv2 := hv.mono s2.v
    have E2 := ea.trans s2.a
    refine a_setv (K := K) (x := .str (S p.2)) (er_place (i := 1) (ds := [.s (S p.1), .s (S p.2)]) (er_var rfl hv2) er_c rfl) fun A3 e3 => ?_
    refine b_for (K := K) (G := A3) (ds := stD sts) (if_list (ef_var (i := 0) rfl (hs.mono (E2.trans e3)))) (Ex.refl A3) (fun j σ' G' A' => ∃ y, σ' = [some x, some xp, some v, some (.str (S (leftG (sts.take j) p.2))), y] ∧ Ex A3 A' ∧ (leftG (sts.take j) p.2).length = n) (fun G1 A1 s1 => ⟨y3, rfl, s1.a, hpl.2⟩) ?_ ?_
    · rintro G1 eg j d v2 σ' G' A' G3 A4 hd ⟨y, rfl, ea3, hL⟩ e4 e5 s4 hv4
      obtain ⟨q, hq1, rfl⟩ := stD_of hd
      have hl := h1.st q (List.mem_of_getElem? hq1)
      refine a_setv1 (K := K) (x := .str (S (freeM (leftG (sts.take j) p.2) q.2))) (er_call (leftG (sts.take j) p.2, q.2) (era_cons (er_v rfl) (era_cons (er_place (i := 1) (ds := [.s (S q.1), .s (S q.2)]) (er_var rfl (hv4.mono s4.v)) er_c rfl) era_nil)) rfl ⟨by show (leftG (sts.take j) p.2).length = q.2.length; omega, by show (leftG (sts.take j) p.2).length ≤ 1000; omega⟩) fun A5 e6 => ?_
      refine ⟨G3, ⟨some v2, ?_, (ea3.trans s4.a).trans e6, ?_⟩, e4.trans s4.g, s4.v.trans e6⟩
      · rw [leftG_next hq1]
        rfl
      · rw [leftG_next hq1, freeM_ln (by omega), hL]
    · rintro σ' G' A' eg2 ev2 ⟨y, rfl, ea3, hL⟩
      have le : (leftG (sts.take (stD sts).length) p.2) = leftG sts p.2 := by rw [stD, List.length_map, List.take_length]
      rw [le] at hL ⊢
      have E4 := (E2.trans e3).trans ea3
      refine a_when1 (K := K) (b := !agreeM p.1 (leftG sts p.2)) (et_nt (et2 (er_call (p.1, leftG sts p.2) (era_cons (er_place (i := 0) (ds := [.s (S p.1), .s (S p.2)]) (er_var rfl (hv2.mono (e3.trans ea3))) er_c rfl) (era_cons (er_v rfl) era_nil)) rfl ⟨by show p.1.length = (leftG sts p.2).length; omega, by show p.1.length ≤ 1000; omega⟩))) (fun hb A6 e6 => ?_) fun hb A6 e6 => ?_
      · refine a_rete (K := K) er_c ?_ (E4.trans e6) hk
        show Dd.b false = Dd.b (agreeAll sts ps)
        rw [show agreeAll sts ps = false from all_not hp1 (by simpa using hb)]
      · refine ⟨G2, ⟨_, _, _, rfl, E4.trans e6, ?_⟩, e2.trans s2.g, s2.v.trans ((e3.trans ea3).trans e6)⟩
        rw [all_next hp1, hM]
        simpa using hb
  · rintro σ' G' A' eg ev ⟨y1, y2, y3, rfl, ea, hM⟩
    refine a_rete (K := K) er_c ?_ ea hk
    rw [stD, List.length_map, List.take_length] at hM
    show Dd.b true = Dd.b (agreeAll sts ps)
    rw [show agreeAll sts ps = true from hM]
end
end Mi

set_option maxHeartbeats 4000000
namespace Mi
open PySem PySem.Spec PyProof.Rows L2 Evl
local macro_rules | `(tactic| walk_at "side") => `(tactic| (first | assumption | omega | exact rfl | decide | (simp only [List.length_cons, List.length_nil, List.length_map, List.length_append, List.length_replicate] <;> omega)))
local macro_rules | `(tactic| walk_at "ro") => `(tactic| (first
  | with_reducible exact ro_I0
  | with_reducible exact ro_1018
  | with_reducible exact ro_neC
  | with_reducible exact ro_eqC
  | with_reducible exact ro_neI
  | with_reducible exact ro_eqI
  | with_reducible exact ro_neB
  | with_reducible exact ro_eqB
  | ((with_reducible apply ro_mod); (walk_at "side"))
  | ((with_reducible apply ro_div) <;> (walk_at "side"))
  | ((with_reducible apply ro_divW) <;> (walk_at "side"))
  | with_reducible exact ro_1012
  | with_reducible exact ro_1015
  | ((with_reducible apply ro_mulL) <;> (walk_at "side"))
  | ((with_reducible apply ro_mulR) <;> (walk_at "side"))
  | ((with_reducible apply ro_addC); (walk_at "side"))
  | ((with_reducible apply ro_ixC) <;> (walk_at "side"))
  | ((with_reducible apply ro_ixI) <;> (walk_at "side"))
  | ((with_reducible apply ro_ixIN) <;> (walk_at "side"))
  | ((with_reducible apply ro_ixT2) <;> (walk_at "side"))
  | ((with_reducible apply ro_ixG) <;> (walk_at "side"))
  | ((with_reducible apply ro_eq); exact rfl)
  | ((with_reducible apply ro_ne); exact rfl)
  | with_reducible exact ro_isN
  | with_reducible exact ro_notN
  | with_reducible exact ro_eqL
  | with_reducible exact ro_neL
  | with_reducible exact ro_eqU
  | ((with_reducible apply ro_cat); (walk_at "side"))
  | with_reducible exact ro_inLi
  | with_reducible exact ro_inNi
  | with_reducible exact ro_inUi
  | ((with_reducible apply ro_inL) <;> (walk_at "side"))
  | ((with_reducible apply ro_inN) <;> (walk_at "side"))
  | ((with_reducible apply ro_inU) <;> (walk_at "side"))))
local macro_rules | `(tactic| walk_at "rc") => `(tactic| (first
  | with_reducible exact rc_int
  | with_reducible exact rc_intB
  | with_reducible exact rc_max2
  | ((with_reducible apply rc_lenC); (walk_at "side"))
  | with_reducible exact rc_lenI
  | with_reducible exact rc_lenT
  | with_reducible exact rc_lenIN
  | with_reducible exact rc_lenTN
  | with_reducible exact rc_lenL
  | with_reducible exact rc_lenN
  | with_reducible exact rc_lenU
  | with_reducible exact rc_listL
  | with_reducible exact rc_listU
  | with_reducible exact rc_tupL
  | with_reducible exact rc_tupN
  | ((with_reducible apply rc_isi_int); decide +kernel)
  | ((with_reducible apply rc_isi_str); decide +kernel)
  | ((with_reducible apply rc_isi_bl); decide +kernel)
  | ((with_reducible apply rc_isi_non); decide +kernel)
  | ((with_reducible apply rc_isi_u); decide +kernel)
  | ((with_reducible apply rc_isi_l); decide +kernel)))
local macro_rules | `(tactic| walk_at "er") => `(tactic| (first
  | ((with_reducible apply er_var); (exact rfl); assumption)
  | ((with_reducible apply er_v); exact rfl)
  | with_reducible exact er_c
  | ((with_reducible apply er_pick); (walk_at "er"); (walk_at "er"); (walk_at "er"))
  | ((with_reducible apply er_op); (walk_at "er"); (walk_at "er"); (walk_at "ro"))
  | ((with_reducible apply er_cb); (walk_at "era"); (walk_at "rc"))
  | ((with_reducible apply er_lst'); (walk_at "era"); (exact rfl); (walk_at "side"))
  | ((with_reducible apply er_tup'); (walk_at "era"); (exact rfl); (walk_at "side"))
  | ((with_reducible apply er_notV); (walk_at "er"))
  | ((with_reducible apply er_andV); (walk_at "er"); (intro _; (walk_at "er")))
  | ((with_reducible apply er_orV); (walk_at "er"); (intro _; (walk_at "er")))
  | ((with_reducible apply er_ite); (walk_at "et"); (intro _; (walk_at "er")); (intro _; (walk_at "er")))))
local macro_rules | `(tactic| walk_at "era") => `(tactic| (first
  | with_reducible exact era_nil
  | ((with_reducible apply era_cons); (walk_at "er"); (walk_at "era"))))
local macro_rules | `(tactic| walk_at "et") => `(tactic| (first
  | ((with_reducible apply et_an); (walk_at "et"); (intro _; (walk_at "et")))
  | ((with_reducible apply et_orr); (walk_at "et"); (intro _; (walk_at "et")))
  | ((with_reducible apply et_nt); (walk_at "et"))
  | ((with_reducible apply et1); (walk_at "er"))
  | ((with_reducible apply et2); (walk_at "er"))))

section
variable {P : Program} {w : World} {K : PySem.W.Frag} {mg : Str → Option Value} {base : Heap}
/-! ### the law's own peeling -/
abbrev readyE (rs : List (List Nat × List Nat)) (ls : List (List Nat)) : List (List Nat × List Nat) := rs.filter fun p => ls.all fun l => agreeM p.2 l
def stepE (s : List (List Nat × List Nat) × List (List Nat)) (turn : Nat) : List (List Nat × List Nat) × List (List Nat) :=
  if readyE s.1 s.2 = [] then s else
    let t := (readyE s.1 s.2).getD (turn % (readyE s.1 s.2).length) ([], [])
    (s.1.filter fun p => !decide (p.1 = t.1), s.2.map fun l => freeM l t.2)
def lawE (sts : List (List Nat × List Nat)) (ls : List (List Nat)) : Nat → List (List Nat × List Nat) × List (List Nat)
  | 0 => (sts, ls)
  | k + 1 => stepE (lawE sts ls k) k
abbrev lawN (sts : List (List Nat × List Nat)) (ls : List (List Nat)) : List (List Nat) := (lawE sts ls sts.length).1.map (·.1)
theorem agreeM_comm {a b : List Nat} : agreeM a b = agreeM b a := by
  unfold agreeM
  induction a generalizing b with
  | nil => cases b <;> rfl
  | cons x a ih =>
    cases b with
    | nil => rfl
    | cons y b =>
      rw [List.zip_cons_cons, List.zip_cons_cons, List.all_cons, List.all_cons, ih]
      congr 1
      unfold okP
      show (x == y || (x == 45 || y == 45)) = (y == x || (y == 45 || x == 45))
      rw [Bool.or_comm (x == 45), BEq.comm (a := x) (b := y)]
theorem lawE_inv {n : Nat} {sts : List (List Nat × List Nat)} (h : StOk n sts) (ls : List (List Nat)) : ∀ k : Nat, ∃ p : List (List Nat), p.Nodup ∧ (∀ m ∈ p, m ∈ nmV sts) ∧ PlS (stampOf sts) ls p ∧ (lawE sts ls k).1 = sts.filter (fun e => !decide (e.1 ∈ p)) ∧ (lawE sts ls k).2 = plL (stampOf sts) ls p ∧ (p.length = k ∨ ∀ m ∈ nmV sts, m ∉ p → agA (stampOf sts) (plL (stampOf sts) ls p) m = false)
  | 0 => ⟨[], List.nodup_nil, by simp, trivial, (List.filter_eq_self.mpr fun _ _ => by simp).symm, rfl, .inl rfl⟩
  | k + 1 => by
    obtain ⟨p, p1, p2, p3, p4, p5, p6⟩ := lawE_inv h ls k
    have ag : ∀ e ∈ sts, ((lawE sts ls k).2.all fun l => agreeM e.2 l) = agA (stampOf sts) (plL (stampOf sts) ls p) e.1 := fun e he => by
      rw [p5]
      unfold agA
      congr 1
      funext l
      rw [stampOf_first h.di he, agreeM_comm]
      rfl
    show ∃ p : List (List Nat), p.Nodup ∧ (∀ m ∈ p, m ∈ nmV sts) ∧ PlS (stampOf sts) ls p ∧ (stepE (lawE sts ls k) k).1 = _ ∧ (stepE (lawE sts ls k) k).2 = _ ∧ _
    unfold stepE
    by_cases hr : readyE (lawE sts ls k).1 (lawE sts ls k).2 = []
    · rw [if_pos hr]
      refine ⟨p, p1, p2, p3, p4, p5, .inr fun m hm hmp => ?_⟩
      obtain ⟨e, he, rfl⟩ := List.mem_map.mp hm
      have hrs : e ∈ (lawE sts ls k).1 := by
        rw [p4]
        exact List.mem_filter.mpr ⟨he, by simpa using hmp⟩
      have := List.filter_eq_nil_iff.mp hr e hrs
      rw [← ag e he]
      simpa using this
    · rw [if_neg hr]
      have hlt : k % (readyE (lawE sts ls k).1 (lawE sts ls k).2).length < (readyE (lawE sts ls k).1 (lawE sts ls k).2).length := Nat.mod_lt _ (List.length_pos_iff.mpr hr)
      have hg : ∃ t, (readyE (lawE sts ls k).1 (lawE sts ls k).2).getD (k % (readyE (lawE sts ls k).1 (lawE sts ls k).2).length) ([], []) = t ∧ t ∈ readyE (lawE sts ls k).1 (lawE sts ls k).2 := by
        refine ⟨_, rfl, ?_⟩
        rw [List.getD_eq_getElem?_getD, List.getElem?_eq_getElem hlt]
        exact List.getElem_mem hlt
      obtain ⟨t, ht, htm⟩ := hg
      rw [ht]
      obtain ⟨t1, t2⟩ := List.mem_filter.mp htm
      rw [p4] at t1
      obtain ⟨t3, t4⟩ := List.mem_filter.mp t1
      have htp : t.1 ∉ p := by simpa using t4
      have hta : agA (stampOf sts) (plL (stampOf sts) ls p) t.1 = true := by
        rw [← ag t t3]
        exact t2
      have hpl : plL (stampOf sts) ls (p ++ [t.1]) = plA (stampOf sts) (plL (stampOf sts) ls p) t.1 := by
        unfold plL
        rw [List.foldl_append]
        rfl
      refine ⟨p ++ [t.1], ?_, ?_, PlS_app.mpr ⟨p3, hta, trivial⟩, ?_, ?_, ?_⟩
      · rw [List.nodup_append]
        refine ⟨p1, by simp, fun a ha b hb e => htp ?_⟩
        rw [← List.mem_singleton.mp hb, ← e]
        exact ha
      · intro m hm
        rcases List.mem_append.mp hm with hm | hm
        · exact p2 m hm
        · rw [List.mem_singleton.mp hm]
          exact List.mem_map.mpr ⟨t, t3, rfl⟩
      · show (lawE sts ls k).1.filter (fun p => !decide (p.1 = t.1)) = _
        rw [p4, List.filter_filter]
        apply List.filter_congr
        intro e _
        by_cases h1 : e.1 = t.1 <;> by_cases h2 : e.1 ∈ p <;> simp [h1, h2]
      · show (lawE sts ls k).2.map (fun l => freeM l t.2) = _
        rw [hpl, p5]
        unfold plA
        rw [stampOf_first h.di t3]
        rfl
      · rcases p6 with p6 | p6
        · exact .inl (by rw [List.length_append, p6]; rfl)
        · exact absurd (p6 t.1 (List.mem_map.mpr ⟨t, t3, rfl⟩) htp) (by rw [hta]; simp)
theorem lawN_is {n : Nat} {sts : List (List Nat × List Nat)} (h : StOk n sts) {ls : List (List Nat)} (hz : Siz n ls) : lawN sts ls = stuckS sts ls (nmV sts) := by
  obtain ⟨p, p1, p2, p3, p4, p5, p6⟩ := lawE_inv h ls sts.length
  have st : ∀ m ∈ nmV sts, (stampOf sts m).length = n := fun m hm => h.stl (h.nm.ok m hm)
  have hst : ∀ m ∈ nmV sts, m ∉ p → agA (stampOf sts) (plL (stampOf sts) ls p) m = false := by
    rcases p6 with p6 | p6
    · intro m hm hmp
      have hR : RowP (nmV sts) p sts.length := ⟨p6, p1, p2⟩
      have hl := rest_len h.di hR
      have e1 : (nmV sts).length = sts.length := by rw [nmV, List.length_map]
      have hl0 := Nat.add_right_cancel (hl.trans (e1.trans (Nat.zero_add _).symm))
      have := List.filter_eq_nil_iff.mp (List.length_eq_zero_iff.mp hl0) m hm
      simp at this
      exact absurd this hmp
    · exact p6
  obtain ⟨q, q1, q2, q3, q4, q5⟩ := stuckG_is (st := stampOf sts) (k := (nmV sts).length) (ls := ls) (ns := nmV sts) (Nat.le_refl _) h.di
  have hsame := same_peel (st := stampOf sts) hz st p2 q2 p1 q1 p3 q3 hst q5
  show (lawE sts ls sts.length).1.map (·.1) = stuckG (stampOf sts) (nmV sts).length ls (nmV sts)
  rw [p4, q4, nmV, List.filter_map]
  congr 1
  apply List.filter_congr
  intro e _
  simp [hsame e.1]
end
end Mi

set_option maxHeartbeats 4000000
namespace Mi
open PySem PySem.Spec PyProof.Rows L2 Evl
local macro_rules | `(tactic| walk_at "side") => `(tactic| (first | assumption | omega | exact rfl | decide | (simp only [List.length_cons, List.length_nil, List.length_map, List.length_append, List.length_replicate] <;> omega)))
local macro_rules | `(tactic| walk_at "ro") => `(tactic| (first
  | with_reducible exact ro_I0
  | with_reducible exact ro_1018
  | with_reducible exact ro_neC
  | with_reducible exact ro_eqC
  | with_reducible exact ro_neI
  | with_reducible exact ro_eqI
  | with_reducible exact ro_neB
  | with_reducible exact ro_eqB
  | ((with_reducible apply ro_mod); (walk_at "side"))
  | ((with_reducible apply ro_div) <;> (walk_at "side"))
  | ((with_reducible apply ro_divW) <;> (walk_at "side"))
  | with_reducible exact ro_1012
  | with_reducible exact ro_1015
  | ((with_reducible apply ro_mulL) <;> (walk_at "side"))
  | ((with_reducible apply ro_mulR) <;> (walk_at "side"))
  | ((with_reducible apply ro_addC); (walk_at "side"))
  | ((with_reducible apply ro_ixC) <;> (walk_at "side"))
  | ((with_reducible apply ro_ixI) <;> (walk_at "side"))
  | ((with_reducible apply ro_ixIN) <;> (walk_at "side"))
  | ((with_reducible apply ro_ixT2) <;> (walk_at "side"))
  | ((with_reducible apply ro_ixG) <;> (walk_at "side"))
  | ((with_reducible apply ro_eq); exact rfl)
  | ((with_reducible apply ro_ne); exact rfl)
  | with_reducible exact ro_isN
  | with_reducible exact ro_notN
  | with_reducible exact ro_eqL
  | with_reducible exact ro_neL
  | with_reducible exact ro_eqU
  | ((with_reducible apply ro_cat); (walk_at "side"))
  | with_reducible exact ro_inLi
  | with_reducible exact ro_inNi
  | with_reducible exact ro_inUi
  | ((with_reducible apply ro_inL) <;> (walk_at "side"))
  | ((with_reducible apply ro_inN) <;> (walk_at "side"))
  | ((with_reducible apply ro_inU) <;> (walk_at "side"))))
local macro_rules | `(tactic| walk_at "rc") => `(tactic| (first
  | with_reducible exact rc_int
  | with_reducible exact rc_intB
  | with_reducible exact rc_max2
  | ((with_reducible apply rc_lenC); (walk_at "side"))
  | with_reducible exact rc_lenI
  | with_reducible exact rc_lenT
  | with_reducible exact rc_lenIN
  | with_reducible exact rc_lenTN
  | with_reducible exact rc_lenL
  | with_reducible exact rc_lenN
  | with_reducible exact rc_lenU
  | with_reducible exact rc_listL
  | with_reducible exact rc_listU
  | with_reducible exact rc_tupL
  | with_reducible exact rc_tupN
  | ((with_reducible apply rc_isi_int); decide +kernel)
  | ((with_reducible apply rc_isi_str); decide +kernel)
  | ((with_reducible apply rc_isi_bl); decide +kernel)
  | ((with_reducible apply rc_isi_non); decide +kernel)
  | ((with_reducible apply rc_isi_u); decide +kernel)
  | ((with_reducible apply rc_isi_l); decide +kernel)))
local macro_rules | `(tactic| walk_at "er") => `(tactic| (first
  | ((with_reducible apply er_var); (exact rfl); assumption)
  | ((with_reducible apply er_v); exact rfl)
  | with_reducible exact er_c
  | ((with_reducible apply er_pick); (walk_at "er"); (walk_at "er"); (walk_at "er"))
  | ((with_reducible apply er_op); (walk_at "er"); (walk_at "er"); (walk_at "ro"))
  | ((with_reducible apply er_cb); (walk_at "era"); (walk_at "rc"))
  | ((with_reducible apply er_lst'); (walk_at "era"); (exact rfl); (walk_at "side"))
  | ((with_reducible apply er_tup'); (walk_at "era"); (exact rfl); (walk_at "side"))
  | ((with_reducible apply er_notV); (walk_at "er"))
  | ((with_reducible apply er_andV); (walk_at "er"); (intro _; (walk_at "er")))
  | ((with_reducible apply er_orV); (walk_at "er"); (intro _; (walk_at "er")))
  | ((with_reducible apply er_ite); (walk_at "et"); (intro _; (walk_at "er")); (intro _; (walk_at "er")))))
local macro_rules | `(tactic| walk_at "era") => `(tactic| (first
  | with_reducible exact era_nil
  | ((with_reducible apply era_cons); (walk_at "er"); (walk_at "era"))))
local macro_rules | `(tactic| walk_at "et") => `(tactic| (first
  | ((with_reducible apply et_an); (walk_at "et"); (intro _; (walk_at "et")))
  | ((with_reducible apply et_orr); (walk_at "et"); (intro _; (walk_at "et")))
  | ((with_reducible apply et_nt); (walk_at "et"))
  | ((with_reducible apply et1); (walk_at "er"))
  | ((with_reducible apply et2); (walk_at "er"))))

section
variable {P : Program} {w : World} {K : PySem.W.Frag} {mg : Str → Option Value} {base : Heap}
theorem lookup_relabel {env : Env} {k : NameKind} (hk : k = .cell ∨ k = .free) : ∀ {names : List (Str × NameKind)} {x : Str}, names.lookup x = some k →
    (names.map fun (n, k) => if (k == NameKind.free && env.scope.kind == .function && env.kindOf n == some .cell) then (n, NameKind.cell) else (n, k)).lookup x = some .cell ∨ (names.map fun (n, k) => if (k == NameKind.free && env.scope.kind == .function && env.kindOf n == some .cell) then (n, NameKind.cell) else (n, k)).lookup x = some .free
  | [], _, h => by simp at h
  | (n, k2) :: r, x, h => by
    have ih := @lookup_relabel env k hk r x
    show List.lookup x ((if (k2 == NameKind.free && env.scope.kind == .function && env.kindOf n == some .cell) = true then (n, NameKind.cell) else (n, k2)) :: _) = _ ∨ List.lookup x ((if (k2 == NameKind.free && env.scope.kind == .function && env.kindOf n == some .cell) = true then (n, NameKind.cell) else (n, k2)) :: _) = _
    cases hx : x == n with
    | true =>
      simp only [List.lookup_cons, hx] at h
      cases h
      by_cases hc : (k == NameKind.free && env.scope.kind == .function && env.kindOf n == some .cell) = true
      · rw [if_pos hc]
        exact .inl (by simp [List.lookup_cons, hx])
      · rw [if_neg hc]
        rcases hk with rfl | rfl
        · exact .inl (by simp [List.lookup_cons, hx])
        · exact .inr (by simp [List.lookup_cons, hx])
    | false =>
      simp only [List.lookup_cons, hx] at h
      by_cases hc : (k2 == NameKind.free && env.scope.kind == .function && env.kindOf n == some .cell) = true
      · rw [if_pos hc]; simp only [List.lookup_cons, hx]; exact ih h
      · rw [if_neg hc]; simp only [List.lookup_cons, hx]; exact ih h
/-- a comprehension within a comprehension -/
theorem blkOk_in {N : List Str} {outer inner : Scope} {own : List (Str × Nat)} {env : Env} (h : blkC N outer inner own = true) : BlkOk N (relabel outer env) inner own := by
  have b := blkOk_by h
  refine ⟨b.kind, b.uniq, b.ix, fun y hy e => ?_, b.own⟩
  rcases b.free y hy e with q | q
  · exact lookup_relabel (.inl rfl) q
  · exact lookup_relabel (.inr rfl) q
/-! ### the law's own peeling, the def -/
abbrev s__law_common_stuck : Stmt := topS 57
theorem sc__law_common_stuck : FnScope ["entries", "lefts", "rest", "held", "turn", "ready", "top", "entry", "left"] ["entries", "lefts"] (defScope s__law_common_stuck) := ⟨rfl, rfl, rfl, by decide +kernel, rfl, by decide +kernel, by decide +kernel⟩

theorem lawE_len {n : Nat} {sts : List (List Nat × List Nat)} (h : StOk n sts) {ls : List (List Nat)} (hz : Siz n ls) (hf : ls.length ≤ 1000) (k : Nat) : (∀ p ∈ (lawE sts ls k).1, p ∈ sts) ∧ (lawE sts ls k).1.length ≤ 1000 ∧ (lawE sts ls k).2.length ≤ 1000 ∧ Siz n (lawE sts ls k).2 := by
  obtain ⟨p, p1, p2, p3, p4, p5, p6⟩ := lawE_inv h ls k
  have hs : Siz n (lawE sts ls k).2 := by
    rw [p5]
    exact plL_siz hz fun m hm => h.stl (h.nm.ok m (p2 m hm))
  refine ⟨fun e he => by rw [p4] at he; exact (List.mem_filter.mp he).1, ?_, ?_, hs⟩
  · rw [p4]
    exact Nat.le_trans (List.length_filter_le _ _) h.few
  · rw [p5]
    have : ∀ (p : List (List Nat)) (ls : List (List Nat)), (plL (stampOf sts) ls p).length = ls.length := by
      intro p
      induction p with
      | nil => intro ls; rfl
      | cons m p ih =>
        intro ls
        show (plL (stampOf sts) (plA (stampOf sts) ls m) p).length = _
        rw [ih, plA, List.length_map]
    rw [this]
    exact hf
theorem tsD_len {ns : List (List Nat)} : (tsD ns).length = ns.length := by rw [tsD, List.length_map]
abbrev sp__law_common_stuck (K : PySem.W.Frag) : Sp := spR K (fun a : Nat × List (List Nat × List Nat) × List (List Nat) => StOk a.1 a.2.1 ∧ Siz a.1 a.2.2 ∧ a.2.2.length ≤ 1000) (fun a => [.L (stD a.2.1), .L (tsD a.2.2)]) fun a => .N (tsD (lawN a.2.1 a.2.2))
theorem has__law_common_stuck (T : Txt K mg) (h : At K mg "_law_common_stuck" s__law_common_stuck ["entries", "lefts"]) (C__law_free : Has P w K mg base 1 "_law_free" ["left", "cover"] (sp__law_free K)) (C__law_agree : Has P w K mg base 1 "_law_agree" ["left", "right"] (sp__law_agree K)) : Has P w K mg base 2 "_law_common_stuck" ["entries", "lefts"] (sp__law_common_stuck K) := by
  refine h.hasR sc__law_common_stuck (fun _ => rfl) fun f cdv A outer s H a vs Q E hr hp hv hk => ?_
  obtain ⟨n, sts, ls0⟩ := a
  obtain ⟨h1, h2, h3⟩ := hp
  replace h1 : StOk n sts := h1
  replace h2 : Siz n ls0 := h2
  replace h3 : ls0.length ≤ 1000 := h3
  rcases hv with _ | ⟨hs, _ | ⟨hl, _ | _⟩⟩
  rename_i x xl
  replace hs : Is K H (.L (stD sts)) x := hs
  replace hl : Is K H (.L (tsD ls0)) xl := hl
  have sc := sc__law_common_stuck
  have sz := h1.sz
  have few := h1.few
  refine ⟨_, (pss_cons (ps_setLc (i := 2) (own := [("entry", 7)]) (g := gName 7) (by rfl) sc.nd rfl rfl (sw_true rfl rfl rfl (by decide +kernel)) (pi_list_k (K := K) (pv 0)) (blkOk_by (N := ["entries", "lefts", "rest", "held", "turn", "ready", "top", "entry", "left"]) (sc := defScope s__law_common_stuck) (own := [("entry", 7)]) (by decide +kernel)) (fun _ _ _ _ _ => (pg_name (i := 7) sc.nd rfl (Or.inl rfl))) (fun _ _ _ _ _ => pts_nil) (fun _ _ _ _ _ => (pv 7)))
    (pss_cons (ps_set (i := 3) sc.nd rfl (Or.inr rfl) (pe_lc (own := [("left", 8)]) (g := gName 8) (by rfl) sc.nd (pi_list_k (K := K) (pv 1)) (blkOk_by (N := ["entries", "lefts", "rest", "held", "turn", "ready", "top", "entry", "left"]) (sc := defScope s__law_common_stuck) (own := [("left", 8)]) (by decide +kernel)) (fun _ _ _ _ _ => (pg_name (i := 8) sc.nd rfl (Or.inl rfl))) (fun _ _ _ _ _ => pts_nil) (fun _ _ _ _ _ => (pv 8))))
    (pss_cons (ps_for PassesOwn.never rfl (pi_range1 (by rfl) T.b_range (pa_cons (pe_callB (cr_len_k (K := K)) (by rfl) T.b_len (by decide +kernel) (pa_cons (pv 0) pa_nil)) pa_nil)) (pg_name (i := 4) sc.nd rfl (Or.inl rfl)) (pss_cons (ps_setLc (i := 5) (own := [("entry", 7)]) (g := gName 7) (by rfl) sc.nd rfl rfl (sw_true rfl rfl rfl (by decide +kernel)) (pi_list_k (K := K) (pv 2)) (blkOk_by (N := ["entries", "lefts", "rest", "held", "turn", "ready", "top", "entry", "left"]) (sc := defScope s__law_common_stuck) (own := [("entry", 7)]) (by decide +kernel)) (fun _ _ _ _ _ => (pg_name (i := 7) sc.nd rfl (Or.inr rfl))) (fun _ _ _ _ _ => (pts_one (pt_cmpR op_eq (pe_callB (cr_len_k (K := K)) (by rfl) T.b_len (by decide +kernel) (pa_cons (pe_lc (own := [("left", 8)]) (g := gName 8) (by rfl) sc.nd (pi_list_k (K := K) (pv 3)) (blkOk_in (N := ["entries", "lefts", "rest", "held", "turn", "ready", "top", "entry", "left"]) (own := [("left", 8)]) (by decide +kernel)) (fun _ _ _ _ _ => (pg_name (i := 8) sc.nd rfl (Or.inl rfl))) (fun _ _ _ _ _ => (pts_one (pt_not (pt_val (pe_callH C__law_agree (hr.mono (by decide)) (pa_cons (pe_ix (ix_list_k (K := K)) (pv 7) pe_int (fun _ _ => rfl)) (pa_cons (pv 8) pa_nil))))))) (fun _ _ _ _ _ => (pv 8))) pa_nil)) pe_int (nomark _)))) (fun _ _ _ _ _ => (pv 7)))
    (pss_one (ps_if (pt_cmpR op_gt (pe_callB (cr_len_k (K := K)) (by rfl) T.b_len (by decide +kernel) (pa_cons (pv 5) pa_nil)) pe_int (nomark _)) (pss_cons (ps_set (i := 6) sc.nd rfl (Or.inr rfl) (pe_ix (ix_list_k (K := K)) (pv 5) (pe_op op_mod (pe_callTy cr_int (by rfl) T.b_int (by decide +kernel) (pa_cons (pv 4) pa_nil)) (pe_callB (cr_len_k (K := K)) (by rfl) T.b_len (by decide +kernel) (pa_cons (pv 5) pa_nil))) (fun _ _ => rfl)))
    (pss_cons (ps_setLc (i := 2) (own := [("entry", 7)]) (g := gName 7) (by rfl) sc.nd rfl rfl (sw_true rfl rfl rfl (by decide +kernel)) (pi_list_k (K := K) (pv 2)) (blkOk_by (N := ["entries", "lefts", "rest", "held", "turn", "ready", "top", "entry", "left"]) (sc := defScope s__law_common_stuck) (own := [("entry", 7)]) (by decide +kernel)) (fun _ _ _ _ _ => (pg_name (i := 7) sc.nd rfl (Or.inl rfl))) (fun _ _ _ _ _ => (pts_one (pt_cmpR op_ne (pe_ix (ix_list_k (K := K)) (pv 7) pe_int (fun _ _ => rfl)) (pe_ix (ix_list_k (K := K)) (pv 6) pe_int (fun _ _ => rfl)) (nomark _)))) (fun _ _ _ _ _ => (pv 7)))
    (pss_one (ps_set (i := 3) sc.nd rfl (Or.inr rfl) (pe_lc (own := [("left", 8)]) (g := gName 8) (by rfl) sc.nd (pi_list_k (K := K) (pv 3)) (blkOk_by (N := ["entries", "lefts", "rest", "held", "turn", "ready", "top", "entry", "left"]) (sc := defScope s__law_common_stuck) (own := [("left", 8)]) (by decide +kernel)) (fun _ _ _ _ _ => (pg_name (i := 8) sc.nd rfl (Or.inl rfl))) (fun _ _ _ _ _ => pts_nil) (fun _ _ _ _ _ => (pe_callH C__law_free (hr.mono (by decide)) (pa_cons (pv 8) (pa_cons (pe_ix (ix_list_k (K := K)) (pv 6) pe_int (fun _ _ => rfl)) pa_nil))))))))) pss_nil))))
    (pss_one (ps_ret (pe_lc (own := [("entry", 7)]) (g := gName 7) (by rfl) sc.nd (pi_list_k (K := K) (pv 2)) (blkOk_by (N := ["entries", "lefts", "rest", "held", "turn", "ready", "top", "entry", "left"]) (sc := defScope s__law_common_stuck) (own := [("entry", 7)]) (by decide +kernel)) (fun _ _ _ _ _ => (pg_name (i := 7) sc.nd rfl (Or.inl rfl))) (fun _ _ _ _ _ => pts_nil) (fun _ _ _ _ _ => (pe_ix (ix_list_k (K := K)) (pv 7) pe_int (fun _ _ => rfl))))))))), ?_⟩
  refine a_asg (K := K) (d := .L (stD sts)) (Er.as (Ef.er (ef_lc (K := K) (G := H) (its := sts) (inj := eD) (vs := [7]) (fun _ => true) eD (if_list (ef_var (i := 0) rfl hs)) (by omega) (fun i p v G' A' g1 g2 hi hv => ⟨_, fun Q q => q, rfl, fun H2 e Q q => q H2 (Ex.refl _), fun _ => ef_var rfl hv⟩))) fun Hx v z => is_cast z.N2L (by rw [filt_true]; rfl)) fun v2 H1 e1 i2 => ?_
  refine a_asg (K := K) (d := .L (tsD ls0)) (Er.as (Ef.er (ef_lc (K := K) (G := H1) (its := ls0) (inj := fun l => Dd.s (S l)) (vs := [8]) (fun _ => true) (fun l => Dd.s (S l)) (if_list (ef_var (i := 1) rfl (hl.mono e1))) (by omega) (fun i p v G' A' g1 g2 hi hv => ⟨_, fun Q q => q, rfl, fun H2 e Q q => q H2 (Ex.refl _), fun _ => ef_var rfl hv⟩))) fun Hx v z => is_cast z.N2L (by rw [filt_true])) fun v3 H2 e2 i3 => ?_
  have E2 := e1.trans e2
  refine b_forR1 (K := K) (n := sts.length) (era_cons (Er.to (er_cb (era_cons (er_var rfl (hs.mono E2)) era_nil) rc_lenLd) (by rw [stD_len])) era_nil) (by omega) (fun k σ' H' => ∃ v2 v3 y4 y5 y6, σ' = [some x, some xl, some v2, some v3, y4, y5, y6, none, none] ∧ Ex H H' ∧ Is K H' (.L (stD (lawE sts ls0 k).1)) v2 ∧ Is K H' (.L (tsD (lawE sts ls0 k).2)) v3) (fun H3 e3 => ⟨v2, v3, none, none, none, rfl, E2.trans e3, i2.mono (e2.trans e3), i3.mono e3⟩) ?_ ?_
  · rintro k σ' H' hk' ⟨v2, v3, y4, y5, y6, rfl, e, j2, j3⟩
    obtain ⟨l1, l2, l3, l4⟩ := lawE_len h1 h2 h3 k
    have hnext : lawE sts ls0 (k + 1) = stepE (lawE sts ls0 k) k := rfl
    generalize lawE sts ls0 k = st at *
    obtain ⟨rs, ls⟩ := st
    replace j2 : Is K H' (.L (stD rs)) v2 := j2
    replace j3 : Is K H' (.L (tsD ls)) v3 := j3
    replace l1 : ∀ p ∈ rs, p ∈ sts := l1
    replace l2 : rs.length ≤ 1000 := l2
    replace l3 : ls.length ≤ 1000 := l3
    replace l4 : Siz n ls := l4
    refine a_asg (K := K) (d := .L (stD (readyE rs ls))) (Er.as (Ef.er (ef_lc (K := K) (G := H') (its := rs) (inj := eD) (vs := [7]) (fun p => ls.all fun l => agreeM p.2 l) eD (if_list (ef_var (i := 2) rfl j2)) (by omega) (fun i p v G' A' g1 g2 hi hv => ?_))) fun Hx v z => z.N2L) fun v5 H3 e3 i5 => ?_
    · have hpl := h1.st p (l1 p (List.mem_of_getElem? hi))
      refine ⟨_, fun Q q => q, rfl, et1 (Er.to (er_op (er_cb (era_cons (Ef.er (ef_lc (K := K) (G := A') (its := ls) (inj := fun l => Dd.s (S l)) (vs := [8]) (fun l => !agreeM p.2 l) (fun l => Dd.s (S l)) (if_list (ef_var (i := 3) rfl (j3.mono (g1.trans g2)))) (by omega) (fun i l v2 G2 A2 g3 g4 hi2 hv2 => ?_))) era_nil) rc_lenNd) er_c ro_eqI) ?_), fun _ => ef_var rfl hv⟩
      · obtain rfl : v2 = V.str (S l) := hv2
        have hll := l4 l (List.mem_of_getElem? hi2)
        exact ⟨_, fun Q q => q, rfl, et_nt (et2 (er_call (p.2, l) (era_cons (er_place (i := 1) (ds := [.s (S p.1), .s (S p.2)]) (er_var rfl (hv.mono (g2.trans (g3.trans g4)))) er_c rfl) (era_cons (er_v rfl) era_nil)) rfl ⟨by show p.2.length = l.length; omega, by show p.2.length ≤ 1000; omega⟩)), fun _ => ef_flat (er_v rfl)⟩
      · refine congrArg Dd.b ?_
        rw [List.length_map]
        cases hall : ls.all fun l => agreeM p.2 l with
        | true =>
          have : (ls.filter fun l => !agreeM p.2 l) = [] := List.filter_eq_nil_iff.mpr fun l hl => by
            have := List.all_eq_true.mp hall l hl
            rw [this]
            simp
          rw [this]
          rfl
        | false =>
          obtain ⟨l, hl, hl2⟩ := List.all_eq_false.mp hall
          have hmem : l ∈ ls.filter fun l => !agreeM p.2 l := List.mem_filter.mpr ⟨hl, by simpa using hl2⟩
          have := List.length_pos_of_mem hmem
          exact decide_eq_false (by omega)
    have E3 := e.trans e3
    have lr : (readyE rs ls).length ≤ 1000 := Nat.le_trans (List.length_filter_le _ _) l2
    refine a_when1 (K := K) (b := !decide (readyE rs ls = [])) (et1 (Er.to (er_op (er_cb (era_cons (er_var rfl i5) era_nil) rc_lenLd) er_c ro_I0) ?_)) (fun hb H4 e4 => ?_) fun hb H4 e4 => ?_
    · refine congrArg Dd.b ?_
      show decide ((0 : Int) < ((stD (readyE rs ls)).length : Int)) = _
      rw [stD_len]
      cases h0 : readyE rs ls with
      | nil => rfl
      | cons a b =>
        rw [List.length_cons]
        have : (0 : Int) < ((b.length + 1 : Nat) : Int) := by omega
        simp [this]
    · have hne : ¬ readyE rs ls = [] := by simpa using hb
      have hlt : k % (readyE rs ls).length < (readyE rs ls).length := Nat.mod_lt _ (List.length_pos_iff.mpr hne)
      have hstep : stepE (rs, ls) k = (rs.filter fun p => !decide (p.1 = ((readyE rs ls).getD (k % (readyE rs ls).length) ([], [])).1), ls.map fun l => freeM l ((readyE rs ls).getD (k % (readyE rs ls).length) ([], [])).2) := by
        unfold stepE
        rw [if_neg hne]
      obtain ⟨t, ht, hti⟩ : ∃ t, (readyE rs ls).getD (k % (readyE rs ls).length) ([], []) = t ∧ (readyE rs ls)[k % (readyE rs ls).length]? = some t := by
        refine ⟨_, rfl, ?_⟩
        rw [List.getD_eq_getElem?_getD, List.getElem?_eq_getElem hlt]
        rfl
      rw [ht] at hstep
      have htl := h1.st t (l1 t (List.mem_filter.mp (List.mem_of_getElem? hti)).1)
      have i5' := i5.mono e4
      refine a_asg (K := K) (d := eD t) (er_op (d2 := .i ((k % (readyE rs ls).length : Nat) : Int)) (er_var rfl i5') (Er.to (er_op (er_cb (era_cons (er_v rfl) era_nil) rc_int) (er_cb (era_cons (er_var rfl i5') era_nil) rc_lenLd) (ro_mod (by rw [stD_len]; have := List.length_pos_iff.mpr hne; omega))) (by rw [stD_len]; rfl)) (ro_ixLd (stD_at hti))) fun v6 H5 e5 i6 => ?_
      have E5 := (e3.trans e4).trans e5
      refine a_asg (K := K) (d := .L (stD (rs.filter fun p => !decide (p.1 = t.1)))) (Er.as (Ef.er (ef_lc (K := K) (G := H5) (its := rs) (inj := eD) (vs := [7]) (fun p => !decide (p.1 = t.1)) eD (if_list (ef_var (i := 2) rfl (j2.mono E5))) (by omega) (fun i p v G' A' g1 g2 hi hv => ⟨_, fun Q q => q, rfl, et1 (er_op (er_place (i := 0) (ds := [.s (S p.1), .s (S p.2)]) (er_var rfl (hv.mono g2)) er_c rfl) (er_place (i := 0) (ds := [.s (S t.1), .s (S t.2)]) (er_var rfl (i6.mono (g1.trans g2))) er_c rfl) ro_neC), fun _ => ef_var rfl hv⟩))) fun Hx v z => z.N2L) fun v7 H6 e6 i7 => ?_
      refine a_asg1 (K := K) (d := .L (tsD (ls.map fun l => freeM l t.2))) (Er.as (Ef.er (ef_lc (K := K) (G := H6) (its := ls) (inj := fun l => Dd.s (S l)) (vs := [8]) (fun _ => true) (fun l => Dd.s (S (freeM l t.2))) (if_list (ef_var (i := 3) rfl (j3.mono (E5.trans e6)))) (by omega) (fun i l v G' A' g1 g2 hi hv => ?_))) fun Hx v z => is_cast z.N2L (by rw [filt_true, tsD, List.map_map]; rfl)) fun v8 H7 e7 i8 => ?_
      · obtain rfl : v = V.str (S l) := hv
        have hll := l4 l (List.mem_of_getElem? hi)
        exact ⟨_, fun Q q => q, rfl, fun H2 e Q q => q H2 (Ex.refl _), fun _ => ef_flat (er_call (l, t.2) (era_cons (er_v rfl) (era_cons (er_place (i := 1) (ds := [.s (S t.1), .s (S t.2)]) (er_var rfl (i6.mono (e6.trans g1))) er_c rfl) era_nil)) rfl ⟨by show l.length = t.2.length; omega, by show l.length ≤ 1000; omega⟩)⟩
      · refine ⟨v7, v8, some (.int (k : Int)), some v5, some v6, rfl, ((e.trans E5).trans e6).trans e7, ?_, ?_⟩
        · rw [hnext, hstep]
          exact i7.mono e7
        · rw [hnext, hstep]
          exact i8
    · have hnil : readyE rs ls = [] := by simpa using hb
      have hstep : stepE (rs, ls) k = (rs, ls) := by
        unfold stepE
        rw [if_pos hnil]
      refine ⟨v2, v3, some (.int (k : Int)), some v5, y6, rfl, E3.trans e4, ?_, ?_⟩
      · rw [hnext, hstep]
        exact j2.mono (e3.trans e4)
      · rw [hnext, hstep]
        exact j3.mono (e3.trans e4)
  · rintro σ' H' ⟨v2, v3, y4, y5, y6, rfl, e, j2, j3⟩
    obtain ⟨l1, l2, l3, l4⟩ := lawE_len h1 h2 h3 sts.length
    refine a_rete (K := K) (d := .N (tsD (lawN sts ls0))) (Er.to (Ef.er (ef_lc (K := K) (G := H') (its := (lawE sts ls0 sts.length).1) (inj := eD) (vs := [7]) (fun _ => true) (fun p => Dd.s (S p.1)) (if_list (ef_var (i := 2) rfl j2)) (by omega) (fun i p v G' A' g1 g2 hi hv => ⟨_, fun Q q => q, rfl, fun H2 e Q q => q H2 (Ex.refl _), fun _ => ef_flat (er_place (i := 0) (ds := [.s (S p.1), .s (S p.2)]) (er_var rfl hv) er_c rfl)⟩))) (by rw [filt_true, lawN, tsD, List.map_map]; rfl)) rfl e hk
end
end Mi

set_option maxHeartbeats 4000000
namespace Mi
open PySem PySem.Spec PyProof.Rows L2 Evl
local macro_rules | `(tactic| walk_at "side") => `(tactic| (first | assumption | omega | exact rfl | decide | (simp only [List.length_cons, List.length_nil, List.length_map, List.length_append, List.length_replicate] <;> omega)))
local macro_rules | `(tactic| walk_at "ro") => `(tactic| (first
  | with_reducible exact ro_I0
  | with_reducible exact ro_1018
  | with_reducible exact ro_neC
  | with_reducible exact ro_eqC
  | with_reducible exact ro_neI
  | with_reducible exact ro_eqI
  | with_reducible exact ro_neB
  | with_reducible exact ro_eqB
  | ((with_reducible apply ro_mod); (walk_at "side"))
  | ((with_reducible apply ro_div) <;> (walk_at "side"))
  | ((with_reducible apply ro_divW) <;> (walk_at "side"))
  | with_reducible exact ro_1012
  | with_reducible exact ro_1015
  | ((with_reducible apply ro_mulL) <;> (walk_at "side"))
  | ((with_reducible apply ro_mulR) <;> (walk_at "side"))
  | ((with_reducible apply ro_addC); (walk_at "side"))
  | ((with_reducible apply ro_ixC) <;> (walk_at "side"))
  | ((with_reducible apply ro_ixI) <;> (walk_at "side"))
  | ((with_reducible apply ro_ixIN) <;> (walk_at "side"))
  | ((with_reducible apply ro_ixT2) <;> (walk_at "side"))
  | ((with_reducible apply ro_ixG) <;> (walk_at "side"))
  | ((with_reducible apply ro_eq); exact rfl)
  | ((with_reducible apply ro_ne); exact rfl)
  | with_reducible exact ro_isN
  | with_reducible exact ro_notN
  | with_reducible exact ro_eqL
  | with_reducible exact ro_neL
  | with_reducible exact ro_eqU
  | ((with_reducible apply ro_cat); (walk_at "side"))
  | with_reducible exact ro_inLi
  | with_reducible exact ro_inNi
  | with_reducible exact ro_inUi
  | ((with_reducible apply ro_inL) <;> (walk_at "side"))
  | ((with_reducible apply ro_inN) <;> (walk_at "side"))
  | ((with_reducible apply ro_inU) <;> (walk_at "side"))))
local macro_rules | `(tactic| walk_at "rc") => `(tactic| (first
  | with_reducible exact rc_int
  | with_reducible exact rc_intB
  | with_reducible exact rc_max2
  | ((with_reducible apply rc_lenC); (walk_at "side"))
  | with_reducible exact rc_lenI
  | with_reducible exact rc_lenT
  | with_reducible exact rc_lenIN
  | with_reducible exact rc_lenTN
  | with_reducible exact rc_lenL
  | with_reducible exact rc_lenN
  | with_reducible exact rc_lenU
  | with_reducible exact rc_listL
  | with_reducible exact rc_listU
  | with_reducible exact rc_tupL
  | with_reducible exact rc_tupN
  | ((with_reducible apply rc_isi_int); decide +kernel)
  | ((with_reducible apply rc_isi_str); decide +kernel)
  | ((with_reducible apply rc_isi_bl); decide +kernel)
  | ((with_reducible apply rc_isi_non); decide +kernel)
  | ((with_reducible apply rc_isi_u); decide +kernel)
  | ((with_reducible apply rc_isi_l); decide +kernel)))
local macro_rules | `(tactic| walk_at "er") => `(tactic| (first
  | ((with_reducible apply er_var); (exact rfl); assumption)
  | ((with_reducible apply er_v); exact rfl)
  | with_reducible exact er_c
  | ((with_reducible apply er_pick); (walk_at "er"); (walk_at "er"); (walk_at "er"))
  | ((with_reducible apply er_op); (walk_at "er"); (walk_at "er"); (walk_at "ro"))
  | ((with_reducible apply er_cb); (walk_at "era"); (walk_at "rc"))
  | ((with_reducible apply er_lst'); (walk_at "era"); (exact rfl); (walk_at "side"))
  | ((with_reducible apply er_tup'); (walk_at "era"); (exact rfl); (walk_at "side"))
  | ((with_reducible apply er_notV); (walk_at "er"))
  | ((with_reducible apply er_andV); (walk_at "er"); (intro _; (walk_at "er")))
  | ((with_reducible apply er_orV); (walk_at "er"); (intro _; (walk_at "er")))
  | ((with_reducible apply er_ite); (walk_at "et"); (intro _; (walk_at "er")); (intro _; (walk_at "er")))))
local macro_rules | `(tactic| walk_at "era") => `(tactic| (first
  | with_reducible exact era_nil
  | ((with_reducible apply era_cons); (walk_at "er"); (walk_at "era"))))
local macro_rules | `(tactic| walk_at "et") => `(tactic| (first
  | ((with_reducible apply et_an); (walk_at "et"); (intro _; (walk_at "et")))
  | ((with_reducible apply et_orr); (walk_at "et"); (intro _; (walk_at "et")))
  | ((with_reducible apply et_nt); (walk_at "et"))
  | ((with_reducible apply et1); (walk_at "er"))
  | ((with_reducible apply et2); (walk_at "er"))))

section
variable {P : Program} {w : World} {K : PySem.W.Frag} {mg : Str → Option Value} {base : Heap}
/-! ### all orders, and which of them lead -/
theorem ef_place {σ : L2.St} {G : Hp} {tl ta : TE} {ds : List Dd} {d : Dd} {i : Nat} (h : Ef K tl σ G (.L ds)) (h2 : Er K ta σ G (.i (i : Int))) (hd : ds[i]? = some d) : Ef K (tOp (rIxL K) tl ta) σ G d := ef_op h (ef_flat h2) (rf_ixL hd)
abbrev rD (r : List (List Nat) × List Nat) : Dd := Dd.L [.U (tsD r.1), .s (S r.2)]
def flagM (p : List Nat × List Nat) (r : List (List Nat) × List Nat) : Bool := agreeM (pressM p.1 r.2) p.2
abbrev flagsM (nets : List (List (List Nat) × List Nat)) (p : List Nat × List Nat) : List Bool := nets.map (flagM p)
structure NetOk (n : Nat) (nets : List (List (List Nat) × List Nat)) : Prop where
  few : nets.length ≤ 10000
  ln : ∀ r ∈ nets, r.2.length = n
abbrev s__law_flags : Stmt := topS 59
theorem sc__law_flags : FnScope ["nets", "sheet", "row"] ["nets", "sheet"] (defScope s__law_flags) := ⟨rfl, rfl, rfl, by decide +kernel, rfl, by decide +kernel, by decide +kernel⟩

abbrev sp__law_flags (K : PySem.W.Frag) : Sp := spF K (fun a : List (List (List Nat) × List Nat) × List Nat × List Nat => NetOk a.2.1.length a.1 ∧ a.2.1.length ≤ 1000 ∧ a.2.2.length = a.2.1.length) (fun a => [.L (a.1.map rD), eD a.2]) fun a => .n ((flagsM a.1 a.2).map V.bl)
theorem has__law_flags (T : Txt K mg) (h : At K mg "_law_flags" s__law_flags ["nets", "sheet"]) (C__law_press : Has P w K mg base 1 "_law_press" ["under", "over"] (sp__law_press K)) (C__law_agree : Has P w K mg base 1 "_law_agree" ["left", "right"] (sp__law_agree K)) : Has P w K mg base 2 "_law_flags" ["nets", "sheet"] (sp__law_flags K) := by
  refine h.hasF sc__law_flags (fun _ => rfl) fun f cdv Ar outer s H A a vs Q E hr hp hA hv hk => ?_
  obtain ⟨nets, base_, view⟩ := a
  obtain ⟨h1, h2, h3⟩ := hp
  replace h1 : NetOk base_.length nets := h1
  replace h2 : base_.length ≤ 1000 := h2
  replace h3 : view.length = base_.length := h3
  rcases hv with _ | ⟨hn, _ | ⟨hs, _ | _⟩⟩
  rename_i xn xs
  replace hn : Is K H (.L (nets.map rD)) xn := hn
  replace hs : Is K H (eD (base_, view)) xs := hs
  have sc := sc__law_flags
  have few := h1.few
  refine ⟨_, (pss_one (ps_ret (pe_lc (own := [("row", 2)]) (g := gName 2) (by rfl) sc.nd (pi_list_k (K := K) (pv 0)) (blkOk_by (N := ["nets", "sheet", "row"]) (sc := defScope s__law_flags) (own := [("row", 2)]) (by decide +kernel)) (fun _ _ _ _ _ => (pg_name (i := 2) sc.nd rfl (Or.inl rfl))) (fun _ _ _ _ _ => pts_nil) (fun _ _ _ _ _ => (pe_callH C__law_agree (hr.mono (by decide)) (pa_cons (pe_callH C__law_press (hr.mono (by decide)) (pa_cons (pe_ix (ix_list_k (K := K)) (pv 1) pe_int (fun _ _ => rfl)) (pa_cons (pe_ix (ix_list_k (K := K)) (pv 2) pe_int (fun _ _ => rfl)) pa_nil))) (pa_cons (pe_ix (ix_list_k (K := K)) (pv 1) pe_int (fun _ _ => rfl)) pa_nil))))))), ?_⟩
  refine s_ret (K := K) (G := H) (d := .n ((flagsM nets (base_, view)).map V.bl)) (Ef.as (ef_lc (K := K) (G := H) (its := nets) (inj := rD) (vs := [2]) (fun _ => true) (fun r => Dd.b (flagM (base_, view) r)) (if_list (ef_var (i := 0) rfl hn)) (by omega) (fun i r v G' A' g1 g2 hi hv => ?_)) fun Hx v z => Is.N2n (is_cast z (congrArg Dd.N bD_eq))) hA rfl fun v G' A' st z => hk v G' A' st z
  have hrl := h1.ln r (List.mem_of_getElem? hi)
  refine ⟨_, fun Q q => q, rfl, fun H2 e Q q => q H2 (Ex.refl _), fun _ => ef_flat (er_call (pressM base_ r.2, view) (era_cons (er_call (base_, r.2) (era_cons (er_place (i := 0) (ds := [.s (S base_), .s (S view)]) (er_var rfl (hs.mono g1)) er_c rfl) (era_cons (er_place (i := 1) (ds := [.U (tsD r.1), .s (S r.2)]) (er_var rfl hv) er_c rfl) era_nil)) rfl ⟨by show base_.length = r.2.length; omega, h2⟩) (era_cons (er_place (i := 1) (ds := [.s (S base_), .s (S view)]) (er_var rfl (hs.mono g1)) er_c rfl) era_nil)) rfl ⟨by show (pressM base_ r.2).length = view.length; rw [pressM_len (by omega)]; omega, by show (pressM base_ r.2).length ≤ 1000; rw [pressM_len (by omega)]; exact h2⟩)⟩
abbrev s__law_common : Stmt := topS 60
theorem sc__law_common : FnScope ["nets", "flags", "k", "row"] ["nets", "flags"] (defScope s__law_common) := ⟨rfl, rfl, rfl, by decide +kernel, rfl, by decide +kernel, by decide +kernel⟩

def comM (nets : List (List (List Nat) × List Nat)) (fl : List (List Bool)) : List (List (List Nat)) := ((List.range nets.length).filter fun k => fl.all fun row => row.getD k false).map fun k => (nets.getD k ([], [])).1
theorem ro_ixB {bs : List Bool} {k : Nat} (hk : k < bs.length) : Ro K (rIxL K) (.l (bs.map V.bl)) (.i (k : Int)) (.b (bs.getD k false)) := by
  intro v1 v2 H1 h1 h2 Q q
  have h1' : Is K H1 (.L ((bs.map V.bl).map Dd.v)) v1 := Is.l2L h1
  refine ro_ixLd (i := k) (d := .b (bs.getD k false)) ?_ v1 v2 H1 h1' h2 Q q
  rw [List.getElem?_map, List.getElem?_map, List.getD_eq_getElem?_getD, List.getElem?_eq_getElem hk]
  rfl
abbrev sp__law_common (K : PySem.W.Frag) : Sp := spR K (fun a : List (List (List Nat) × List Nat) × List (List Bool) => a.1.length ≤ 10000 ∧ a.2.length ≤ 1000 ∧ ∀ row ∈ a.2, row.length = a.1.length) (fun a => [.L (a.1.map rD), .L (a.2.map fun row => Dd.l (row.map V.bl))]) fun a => .L ((comM a.1 a.2).map fun r => Dd.U (tsD r))
theorem has__law_common (T : Txt K mg) (h : At K mg "_law_common" s__law_common ["nets", "flags"]) : Has P w K mg base 1 "_law_common" ["nets", "flags"] (sp__law_common K) := by
  refine h.hasR sc__law_common (fun _ => rfl) fun f cdv A outer s H a vs Q E hr hp hv hk => ?_
  obtain ⟨nets, fl⟩ := a
  obtain ⟨h1, h2, h3⟩ := hp
  replace h1 : nets.length ≤ 10000 := h1
  replace h2 : fl.length ≤ 1000 := h2
  replace h3 : ∀ row ∈ fl, row.length = nets.length := h3
  rcases hv with _ | ⟨hn, _ | ⟨hs, _ | _⟩⟩
  rename_i xn xs
  replace hn : Is K H (.L (nets.map rD)) xn := hn
  replace hs : Is K H (.L (fl.map fun row => Dd.l (row.map V.bl))) xs := hs
  have sc := sc__law_common
  refine ⟨_, (pss_one (ps_ret (pe_lc (own := [("k", 2)]) (g := gName 2) (by rfl) sc.nd (pi_range1 (by rfl) T.b_range (pa_cons (pe_callB (cr_len_k (K := K)) (by rfl) T.b_len (by decide +kernel) (pa_cons (pv 0) pa_nil)) pa_nil)) (blkOk_by (N := ["nets", "flags", "k", "row"]) (sc := defScope s__law_common) (own := [("k", 2)]) (by decide +kernel)) (fun _ _ _ _ _ => (pg_name (i := 2) sc.nd rfl (Or.inr rfl))) (fun _ _ _ _ _ => (pts_one (pt_cmpR op_eq (pe_callB (cr_len_k (K := K)) (by rfl) T.b_len (by decide +kernel) (pa_cons (pe_lc (own := [("row", 3)]) (g := gName 3) (by rfl) sc.nd (pi_list_k (K := K) (pv 1)) (blkOk_in (N := ["nets", "flags", "k", "row"]) (own := [("row", 3)]) (by decide +kernel)) (fun _ _ _ _ _ => (pg_name (i := 3) sc.nd rfl (Or.inl rfl))) (fun _ _ _ _ _ => (pts_one (pt_not (pt_val (pe_ix (ix_list_k (K := K)) (pv 3) (pv 2) (fun _ _ => rfl)))))) (fun _ _ _ _ _ => (pv 3))) pa_nil)) pe_int (nomark _)))) (fun _ _ _ _ _ => (pe_ix (ix_list_k (K := K)) (pe_ix (ix_list_k (K := K)) (pv 0) (pv 2) (fun _ _ => rfl)) pe_int (fun _ _ => rfl)))))), ?_⟩
  refine a_rete (K := K) (d := .L ((comM nets fl).map fun r => Dd.U (tsD r))) (Er.as (Ef.er (ef_lc (K := K) (G := H) (its := List.range nets.length) (inj := fun k : Nat => Dd.i (k : Int)) (vs := [2]) (fun k => fl.all fun row => row.getD k false) (fun k => Dd.U (tsD (nets.getD k ([], [])).1)) (if_range (era_cons (Er.to (er_cb (era_cons (er_var rfl hn) era_nil) rc_lenLd) (by rw [List.length_map])) era_nil) (by omega)) (by rw [List.length_range]; omega) (fun i k v G' A' g1 g2 hi hv => ?_))) fun Hx v z => is_cast z.N2L (by rw [comM, List.map_map]; rfl)) rfl (Ex.refl H) hk
  obtain rfl : v = V.int (k : Int) := hv
  have hk2 : k < nets.length := by
    have := List.mem_of_getElem? hi
    simpa using this
  have hg : (nets.map rD)[k]? = some (rD (nets.getD k ([], []))) := by
    rw [List.getElem?_map, List.getD_eq_getElem?_getD, List.getElem?_eq_getElem hk2]
    rfl
  refine ⟨_, fun Q q => q, rfl, et1 (Er.to (er_op (er_cb (era_cons (Ef.er (ef_lc (K := K) (G := A') (its := fl) (inj := fun row => Dd.l (row.map V.bl)) (vs := [3]) (fun row => !row.getD k false) (fun row => Dd.l (row.map V.bl)) (if_list (ef_var (i := 1) rfl (hs.mono (g1.trans g2)))) (by omega) (fun i row v2 G2 A2 g3 g4 hi2 hv2 => ?_))) era_nil) rc_lenNd) er_c ro_eqI) ?_), fun _ => Ef.as (ef_place (i := 0) (ds := [.U (tsD (nets.getD k ([], [])).1), .s (S (nets.getD k ([], [])).2)]) (ef_place (i := k) (ef_var rfl (hn.mono g1)) (er_v rfl) hg) er_c rfl) fun _ _ z => z⟩
  · have hrl := h3 row (List.mem_of_getElem? hi2)
    exact ⟨_, fun Q q => q, rfl, et_nt (et2 (er_op (er_var rfl (hv2.mono g4)) (er_v rfl) (ro_ixB (by omega)))), fun _ => ef_var rfl hv2⟩
  · refine congrArg Dd.b ?_
    rw [List.length_map]
    cases hall : fl.all fun row => row.getD k false with
    | true =>
      have : (fl.filter fun row => !row.getD k false) = [] := List.filter_eq_nil_iff.mpr fun l hl => by
        have := List.all_eq_true.mp hall l hl
        rw [this]
        simp
      rw [this]
      rfl
    | false =>
      obtain ⟨l, hl, hl2⟩ := List.all_eq_false.mp hall
      have hmem : l ∈ fl.filter fun row => !row.getD k false := List.mem_filter.mpr ⟨hl, by simpa using hl2⟩
      have := List.length_pos_of_mem hmem
      exact decide_eq_false (by omega)
abbrev s__law_given : Stmt := topS 61
theorem sc__law_given : FnScope ["sheets", "turn", "given", "sheet"] ["sheets", "turn"] (defScope s__law_given) := ⟨rfl, rfl, rfl, by decide +kernel, rfl, by decide +kernel, by decide +kernel⟩

abbrev sp__law_given (K : PySem.W.Frag) : Sp := spR K (fun a : List (List Nat × List Nat) × Nat => a.1.length ≤ 1000) (fun a => [.L (stD a.1), .i (a.2 : Int)]) fun a => gpD (decide (a.2 / 2 = 1)) (decide (a.2 % 2 = 1)) a.1
theorem has__law_given (T : Txt K mg) (h : At K mg "_law_given" s__law_given ["sheets", "turn"]) : Has P w K mg base 1 "_law_given" ["sheets", "turn"] (sp__law_given K) := by
  refine h.hasR sc__law_given (fun _ => rfl) fun f cdv A outer s H a vs Q E hr hp hv hk => ?_
  obtain ⟨ps, t⟩ := a
  replace hp : ps.length ≤ 1000 := hp
  rcases hv with _ | ⟨hs, _ | ⟨rfl, _ | _⟩⟩
  rename_i x
  replace hs : Is K H (.L (stD ps)) x := hs
  have sc := sc__law_given
  refine ⟨_, (pss_cons (ps_setLc (i := 2) (own := [("sheet", 3)]) (g := gName 3) (by rfl) sc.nd rfl rfl (sw_true rfl rfl rfl (by decide +kernel)) (pi_list_k (K := K) (pv 0)) (blkOk_by (N := ["sheets", "turn", "given", "sheet"]) (sc := defScope s__law_given) (own := [("sheet", 3)]) (by decide +kernel)) (fun _ _ _ _ _ => (pg_name (i := 3) sc.nd rfl (Or.inl rfl))) (fun _ _ _ _ _ => pts_nil) (fun _ _ _ _ _ => (pe_lst (pa_cons (pe_ix (ix_list_k (K := K)) (pv 3) pe_int (fun _ _ => rfl)) (pa_cons (pe_ix (ix_list_k (K := K)) (pv 3) pe_int (fun _ _ => rfl)) pa_nil)))))
    (pss_cons (ps_if (pt_cmpR op_eq (pe_op op_mod (pe_callTy cr_int (by rfl) T.b_int (by decide +kernel) (pa_cons (pv 1) pa_nil)) pe_int) pe_int (nomark _)) (pss_one (ps_setLc (i := 2) (own := [("sheet", 3)]) (g := gName 3) (by rfl) sc.nd rfl rfl (sw_true rfl rfl rfl (by decide +kernel)) (pi_list_k (K := K) (pv 2)) (blkOk_by (N := ["sheets", "turn", "given", "sheet"]) (sc := defScope s__law_given) (own := [("sheet", 3)]) (by decide +kernel)) (fun _ _ _ _ _ => (pg_name (i := 3) sc.nd rfl (Or.inl rfl))) (fun _ _ _ _ _ => pts_nil) (fun _ _ _ _ _ => (pe_callTy (cr_tuple_k (K := K)) (by rfl) T.b_tuple (by decide +kernel) (pa_cons (pv 3) pa_nil))))) pss_nil)
    (pss_cons (ps_if (pt_cmpR op_eq (pe_callTy cr_int (by rfl) T.b_int (by decide +kernel) (pa_cons (pe_op op_fdiv (pv 1) pe_int) pa_nil)) pe_int (nomark _)) (pss_one (ps_ret (pe_callTy (cr_tuple_k (K := K)) (by rfl) T.b_tuple (by decide +kernel) (pa_cons (pv 2) pa_nil)))) pss_nil)
    (pss_one (ps_ret (pv 2)))))), ?_⟩
  refine a_asg (K := K) (d := .N (ps.map (pD false))) (Er.to (Ef.er (ef_lc (K := K) (G := H) (its := ps) (inj := eD) (vs := [3]) (fun _ => true) (pD false) (if_list (ef_var (i := 0) rfl hs)) (by omega) (fun i p v G' A' g1 g2 hi hv => ⟨_, fun Q q => q, rfl, fun H2 e Q q => q H2 (Ex.refl _), fun _ => ef_N (efa_cons (ef_flat (er_place (i := 0) (ds := [.s (S p.1), .s (S p.2)]) (er_var rfl hv) er_c rfl)) (efa_cons (ef_flat (er_place (i := 1) (ds := [.s (S p.1), .s (S p.2)]) (er_var rfl hv) er_c rfl)) efa_nil)) (by simp)⟩))) (by rw [filt_true])) fun v2 H1 e1 i2 => ?_
  refine a_whenR (K := K) (b := decide (t % 2 = 1)) (fun σ' H' => ∃ v, σ' = [some x, some (.int (t : Int)), some v, none] ∧ Ex H H' ∧ Is K H' (.N (ps.map (pD (decide (t % 2 = 1))))) v) (et1 (Er.to (er_op (er_op (er_cb (era_cons (er_v rfl) era_nil) rc_int) er_c (ro_mod (by decide))) er_c ro_eqI) (congrArg Dd.b (decide_eq_decide.mpr (by omega))))) ?_ (fun hr' hb H2 e2 => ?_) (fun hb H2 e2 => ?_)
  · rintro σ' H' ⟨v, rfl, e, hv⟩
    refine a_when (K := K) (b := decide (t / 2 = 1)) (et1 (Er.to (er_op (er_cb (era_cons (er_op (er_v rfl) er_c (ro_div (by decide) (by decide))) era_nil) rc_int) er_c ro_eqI) (congrArg Dd.b (decide_eq_decide.mpr (by omega))))) (fun hb H3 e3 => ?_) (fun hb H3 e3 => ?_)
    · refine a_rete (K := K) (d := .U (ps.map (pD (decide (t % 2 = 1))))) (Ef.er (ef_cb (efa_cons (ef_var rfl (hv.mono e3)) efa_nil) rf_tupN)) ?_ (e.trans e3) hk
      show _ = gpD (decide (t / 2 = 1)) (decide (t % 2 = 1)) ps
      rw [hb]
    · refine a_rete (K := K) (d := .N (ps.map (pD (decide (t % 2 = 1))))) (er_var rfl (hv.mono e3)) ?_ (e.trans e3) hk
      show _ = gpD (decide (t / 2 = 1)) (decide (t % 2 = 1)) ps
      rw [hb]
  · refine a_asg1 (K := K) (d := .N (ps.map (pD true))) (Er.to (Ef.er (ef_lc (K := K) (G := H2) (its := ps) (inj := pD false) (vs := [3]) (fun _ => true) (pD true) (if_list (Ef.as (ef_var (i := 2) rfl (i2.mono e2)) fun _ _ z => z.N2L)) (by omega) (fun i p v G' A' g1 g2 hi hv => ⟨_, fun Q q => q, rfl, fun H2 e Q q => q H2 (Ex.refl _), fun _ => ef_cb (efa_cons (ef_var rfl hv) efa_nil) rf_tupN⟩))) (by rw [filt_true])) fun v3 H3 e3 i3 => ?_
    refine hr' _ _ ⟨v3, rfl, (e1.trans e2).trans e3, ?_⟩
    rw [hb]
    exact i3
  · refine ⟨v2, rfl, e1.trans e2, ?_⟩
    rw [hb]
    exact i2.mono e2
end
end Mi

set_option maxHeartbeats 4000000
namespace Mi
open PySem PySem.Spec PyProof.Rows L2 Evl
local macro_rules | `(tactic| walk_at "side") => `(tactic| (first | assumption | omega | exact rfl | decide | (simp only [List.length_cons, List.length_nil, List.length_map, List.length_append, List.length_replicate] <;> omega)))
local macro_rules | `(tactic| walk_at "ro") => `(tactic| (first
  | with_reducible exact ro_I0
  | with_reducible exact ro_1018
  | with_reducible exact ro_neC
  | with_reducible exact ro_eqC
  | with_reducible exact ro_neI
  | with_reducible exact ro_eqI
  | with_reducible exact ro_neB
  | with_reducible exact ro_eqB
  | ((with_reducible apply ro_mod); (walk_at "side"))
  | ((with_reducible apply ro_div) <;> (walk_at "side"))
  | ((with_reducible apply ro_divW) <;> (walk_at "side"))
  | with_reducible exact ro_1012
  | with_reducible exact ro_1015
  | ((with_reducible apply ro_mulL) <;> (walk_at "side"))
  | ((with_reducible apply ro_mulR) <;> (walk_at "side"))
  | ((with_reducible apply ro_addC); (walk_at "side"))
  | ((with_reducible apply ro_ixC) <;> (walk_at "side"))
  | ((with_reducible apply ro_ixI) <;> (walk_at "side"))
  | ((with_reducible apply ro_ixIN) <;> (walk_at "side"))
  | ((with_reducible apply ro_ixT2) <;> (walk_at "side"))
  | ((with_reducible apply ro_ixG) <;> (walk_at "side"))
  | ((with_reducible apply ro_eq); exact rfl)
  | ((with_reducible apply ro_ne); exact rfl)
  | with_reducible exact ro_isN
  | with_reducible exact ro_notN
  | with_reducible exact ro_eqL
  | with_reducible exact ro_neL
  | with_reducible exact ro_eqU
  | ((with_reducible apply ro_cat); (walk_at "side"))
  | with_reducible exact ro_inLi
  | with_reducible exact ro_inNi
  | with_reducible exact ro_inUi
  | ((with_reducible apply ro_inL) <;> (walk_at "side"))
  | ((with_reducible apply ro_inN) <;> (walk_at "side"))
  | ((with_reducible apply ro_inU) <;> (walk_at "side"))))
local macro_rules | `(tactic| walk_at "rc") => `(tactic| (first
  | with_reducible exact rc_int
  | with_reducible exact rc_intB
  | with_reducible exact rc_max2
  | ((with_reducible apply rc_lenC); (walk_at "side"))
  | with_reducible exact rc_lenI
  | with_reducible exact rc_lenT
  | with_reducible exact rc_lenIN
  | with_reducible exact rc_lenTN
  | with_reducible exact rc_lenL
  | with_reducible exact rc_lenN
  | with_reducible exact rc_lenU
  | with_reducible exact rc_listL
  | with_reducible exact rc_listU
  | with_reducible exact rc_tupL
  | with_reducible exact rc_tupN
  | ((with_reducible apply rc_isi_int); decide +kernel)
  | ((with_reducible apply rc_isi_str); decide +kernel)
  | ((with_reducible apply rc_isi_bl); decide +kernel)
  | ((with_reducible apply rc_isi_non); decide +kernel)
  | ((with_reducible apply rc_isi_u); decide +kernel)
  | ((with_reducible apply rc_isi_l); decide +kernel)))
local macro_rules | `(tactic| walk_at "er") => `(tactic| (first
  | ((with_reducible apply er_var); (exact rfl); assumption)
  | ((with_reducible apply er_v); exact rfl)
  | with_reducible exact er_c
  | ((with_reducible apply er_pick); (walk_at "er"); (walk_at "er"); (walk_at "er"))
  | ((with_reducible apply er_op); (walk_at "er"); (walk_at "er"); (walk_at "ro"))
  | ((with_reducible apply er_cb); (walk_at "era"); (walk_at "rc"))
  | ((with_reducible apply er_lst'); (walk_at "era"); (exact rfl); (walk_at "side"))
  | ((with_reducible apply er_tup'); (walk_at "era"); (exact rfl); (walk_at "side"))
  | ((with_reducible apply er_notV); (walk_at "er"))
  | ((with_reducible apply er_andV); (walk_at "er"); (intro _; (walk_at "er")))
  | ((with_reducible apply er_orV); (walk_at "er"); (intro _; (walk_at "er")))
  | ((with_reducible apply er_ite); (walk_at "et"); (intro _; (walk_at "er")); (intro _; (walk_at "er")))))
local macro_rules | `(tactic| walk_at "era") => `(tactic| (first
  | with_reducible exact era_nil
  | ((with_reducible apply era_cons); (walk_at "er"); (walk_at "era"))))
local macro_rules | `(tactic| walk_at "et") => `(tactic| (first
  | ((with_reducible apply et_an); (walk_at "et"); (intro _; (walk_at "et")))
  | ((with_reducible apply et_orr); (walk_at "et"); (intro _; (walk_at "et")))
  | ((with_reducible apply et_nt); (walk_at "et"))
  | ((with_reducible apply et1); (walk_at "er"))
  | ((with_reducible apply et2); (walk_at "er"))))

section
variable {K : PySem.W.Frag} {σ : L2.St} {G A : Hp} {te tl : TE} {tr : TA} {d : Dd}
theorem ef_lstn {vs : List V} (h : Era K tr σ G (vs.map Dd.v)) (hl : vs.length ≤ 100000) : Ef K (tLst tr) σ G (.n vs) := fun G1 A e1 e2 Q q =>
  h A (e1.trans e2) _ fun ws H2 e z => by
    have ew := flat_all z
    subst ew
    exact ⟨sz_of hl, fun p hp => q _ (upd G1 p (.lst ws)) _ ((Step.on e2 e).trans (Step.new (e2.trans e) hp)) ⟨p, rfl, upd_same⟩⟩
theorem rof_cat {xs zs : List V} (h : xs.length + zs.length ≤ 100000) : Rof K rCat (.n xs) (.n zs) (.n (xs ++ zs)) := by
  rintro _ _ G A e ⟨p, rfl, hp⟩ ⟨p', rfl, hp'⟩ Q q
  exact ⟨p, p', xs, zs, rfl, rfl, e p _ hp, e p' _ hp', sz_of h, fun l hl => q _ (upd G l (.lst (xs ++ zs))) _ (Step.new e hl) ⟨l, rfl, upd_same⟩⟩
end
section
variable {P : Program} {w : World} {K : PySem.W.Frag} {mg : Str → Option Value} {base : Heap}
/-! ### all orders of the names -/
def netT (sts : List (List Nat × List Nat)) (n : Nat) (r : List (List Nat)) : List Nat := r.foldl (fun l m => pressM l (stampOf sts m)) (List.replicate n 45)
theorem netT_app {sts : List (List Nat × List Nat)} {n : Nat} {r : List (List Nat)} {m : List Nat} : netT sts n (r ++ [m]) = pressM (netT sts n r) (stampOf sts m) := by
  unfold netT
  rw [List.foldl_append]
  rfl
theorem netT_len {n : Nat} {sts : List (List Nat × List Nat)} (h : StOk n sts) {r : List (List Nat)} (hr : ∀ m ∈ r, m ∈ nmV sts) : (netT sts n r).length = n := by
  unfold netT
  suffices h2 : ∀ (r : List (List Nat)) (x : List Nat), (∀ m ∈ r, m ∈ nmV sts) → x.length = n → (r.foldl (fun l m => pressM l (stampOf sts m)) x).length = n from h2 r _ hr (by simp)
  intro r
  induction r with
  | nil => intro x _ h; exact h
  | cons m r ih =>
    intro x hm hx
    have := h.stl (h.nm.ok m (hm m (List.mem_cons_self ..)))
    exact ih _ (fun y hy => hm y (List.mem_cons_of_mem _ hy)) (by rw [pressM_len (by omega), hx])
abbrev qD (sts : List (List Nat × List Nat)) (n : Nat) (r : List (List Nat)) : Dd := Dd.L [.n (vsl r), .s (S (netT sts n r))]
abbrev netsM (sts : List (List Nat × List Nat)) (n : Nat) : List (List (List Nat) × List Nat) := (rowsT (nmV sts) sts.length).map fun r => (r, netT sts n r)
theorem inV_vsl {n : List Nat} {xs : List (List Nat)} : inV (.str (S n)) (vsl xs) = decide (n ∈ xs) := by
  unfold inV
  rw [vsl, vss, List.any_map, List.any_map, Bool.eq_iff_iff, List.any_eq_true, decide_eq_true_eq]
  constructor
  · rintro ⟨q, hq, e⟩
    have e2 : S q = S n := by simpa [eqV] using e
    rw [← S_inj e2]
    exact hq
  · intro h
    exact ⟨n, h, by simp [eqV]⟩
theorem flat_vsl (xs : List (List Nat)) : (vsl xs).all flatV = true := by
  rw [List.all_eq_true]
  intro v hv
  obtain ⟨s, _, rfl⟩ := List.mem_map.mp hv
  rfl
theorem ro_notInT {n : List Nat} {xs : List (List Nat)} : Ro K (rIn K true) (.s (S n)) (.n (vsl xs)) (.b (!decide (n ∈ xs))) := by
  have h := ro_inN (K := K) (neg := true) (x := .str (S n)) (xs := vsl xs) rfl (flat_vsl xs)
  rw [if_pos rfl, inV_vsl] at h
  exact h
theorem more_len {ns r : List (List Nat)} : (moreR ns r).length ≤ ns.length := by
  rw [moreR, List.length_map]
  exact List.length_filter_le _ _
theorem flat_len {ns : List (List Nat)} : ∀ rows : List (List (List Nat)), (rows.flatMap (moreR ns)).length ≤ rows.length * ns.length
  | [] => by simp
  | r :: rows => by
    rw [List.flatMap_cons, List.length_append, List.length_cons, Nat.succ_mul]
    have h1 := flat_len (ns := ns) rows
    have h2 := more_len (ns := ns) (r := r)
    omega
theorem nmV_next {sts : List (List Nat × List Nat)} {j : Nat} {e : List Nat × List Nat} (h : sts[j]? = some e) : nmV (sts.take (j + 1)) = nmV (sts.take j) ++ [e.1] := by
  rw [nmV, List.take_add_one, h, List.map_append]
  rfl
theorem more_next {sts : List (List Nat × List Nat)} {j : Nat} {e : List Nat × List Nat} {r : List (List Nat)} (h : sts[j]? = some e) : moreR (nmV (sts.take (j + 1))) r = moreR (nmV (sts.take j)) r ++ if e.1 ∈ r then [] else [r ++ [e.1]] := by
  rw [nmV_next h, moreR, List.filter_append, List.map_append]
  congr 1
  by_cases h : e.1 ∈ r <;> simp [h]
theorem flat_next {ns : List (List Nat)} {rows : List (List (List Nat))} {i : Nat} {r : List (List Nat)} (h : rows[i]? = some r) : (rows.take (i + 1)).flatMap (moreR ns) = (rows.take i).flatMap (moreR ns) ++ moreR ns r := by
  rw [List.take_add_one, h, List.flatMap_append]
  simp
abbrev s__law_nets : Stmt := topS 55
theorem sc__law_nets : FnScope ["entries", "size", "rows", "turn", "grown", "row", "entry"] ["entries", "size"] (defScope s__law_nets) := ⟨rfl, rfl, rfl, by decide +kernel, rfl, by decide +kernel, by decide +kernel⟩

abbrev sp__law_nets (K : PySem.W.Frag) : Sp := spR K (fun a : List (List Nat × List Nat) × Nat => StOk a.2 a.1 ∧ a.1.length ≤ 7) (fun a => [.L (stD a.1), .i (a.2 : Int)]) fun a => .L ((netsM a.1 a.2).map rD)
theorem has__law_nets (T : Txt K mg) (h : At K mg "_law_nets" s__law_nets ["entries", "size"]) (C__law_press : Has P w K mg base 1 "_law_press" ["under", "over"] (sp__law_press K)) : Has P w K mg base 2 "_law_nets" ["entries", "size"] (sp__law_nets K) := by
  refine h.hasR sc__law_nets (fun _ => rfl) fun f cdv A outer s H a vs Q E hr hp hv hk => ?_
  obtain ⟨sts, n⟩ := a
  obtain ⟨h1, h7⟩ := hp
  replace h1 : StOk n sts := h1
  replace h7 : sts.length ≤ 7 := h7
  rcases hv with _ | ⟨hs, _ | ⟨rfl, _ | _⟩⟩
  rename_i x
  replace hs : Is K H (.L (stD sts)) x := hs
  have sc := sc__law_nets
  have sz := h1.sz
  have few := fun t => rows_few (ns := nmV sts) h1.di (by rw [nmV, List.length_map]; exact h7) t
  have hn7 : (nmV sts).length = sts.length := by rw [nmV, List.length_map]
  refine ⟨_, (pss_cons (ps_set (i := 2) sc.nd rfl (Or.inl rfl) (pe_lst (pa_cons (pe_lst (pa_cons (pe_lst pa_nil) (pa_cons (pe_op op_mulS (pe_strS [45] (by rfl)) (pv 1)) pa_nil))) pa_nil)))
    (pss_cons (ps_for PassesOwn.never rfl (pi_range1 (by rfl) T.b_range (pa_cons (pe_callB (cr_len_k (K := K)) (by rfl) T.b_len (by decide +kernel) (pa_cons (pv 0) pa_nil)) pa_nil)) (pg_name (i := 3) sc.nd rfl (Or.inl rfl)) (pss_cons (ps_set (i := 4) sc.nd rfl (Or.inl rfl) (pe_lst pa_nil))
    (pss_cons (ps_for PassesOwn.never rfl (pi_list_k (K := K) (pv 2)) (pg_name (i := 5) sc.nd rfl (Or.inl rfl)) (pss_one (ps_for PassesOwn.never rfl (pi_list_k (K := K) (pv 0)) (pg_name (i := 6) sc.nd rfl (Or.inl rfl)) (pss_one (ps_if (pt_cmpR (op_notIn_k (K := K)) (pe_ix (ix_list_k (K := K)) (pv 6) pe_int (fun _ _ => rfl)) (pe_ix (ix_list_k (K := K)) (pv 5) pe_int (fun _ _ => rfl)) rfl) (pss_one (ps_expr (pe_bm_k (K := K) PySem.F.plainAttrs_list PySem.F.slot_list_append PySem.F.type_list_append mt_append (pv 4) (pa_cons (pe_lst (pa_cons (pe_op op_cat (pe_ix (ix_list_k (K := K)) (pv 5) pe_int (fun _ _ => rfl)) (pe_lst (pa_cons (pe_ix (ix_list_k (K := K)) (pv 6) pe_int (fun _ _ => rfl)) pa_nil))) (pa_cons (pe_callH C__law_press (hr.mono (by decide)) (pa_cons (pe_ix (ix_list_k (K := K)) (pv 5) pe_int (fun _ _ => rfl)) (pa_cons (pe_ix (ix_list_k (K := K)) (pv 6) pe_int (fun _ _ => rfl)) pa_nil))) pa_nil))) pa_nil)))) pss_nil)))))
    (pss_one (ps_set (i := 2) sc.nd rfl (Or.inl rfl) (pe_callTy (cr_list_k (K := K)) (by rfl) T.b_list (by decide +kernel) (pa_cons (pv 4) pa_nil)))))))
    (pss_one (ps_ret (pe_lc (own := [("row", 5)]) (g := gName 5) (by rfl) sc.nd (pi_list_k (K := K) (pv 2)) (blkOk_by (N := ["entries", "size", "rows", "turn", "grown", "row", "entry"]) (sc := defScope s__law_nets) (own := [("row", 5)]) (by decide +kernel)) (fun _ _ _ _ _ => (pg_name (i := 5) sc.nd rfl (Or.inl rfl))) (fun _ _ _ _ _ => pts_nil) (fun _ _ _ _ _ => (pe_lst (pa_cons (pe_callTy (cr_tuple_k (K := K)) (by rfl) T.b_tuple (by decide +kernel) (pa_cons (pe_ix (ix_list_k (K := K)) (pv 5) pe_int (fun _ _ => rfl)) pa_nil)) (pa_cons (pe_ix (ix_list_k (K := K)) (pv 5) pe_int (fun _ _ => rfl)) pa_nil))))))))), ?_⟩
  refine a_asg (K := K) (d := .L ((rowsT (nmV sts) 0).map (qD sts n))) (Er.as (Ef.er (ef_N (efa_cons (Ef.as (ef_N (efa_cons (ef_lstn (vs := vsl []) era_nil (by simp)) (efa_cons (ef_flat (er_dash er_c (er_v rfl) sz)) efa_nil)) (by simp)) fun _ _ z => z.N2L) efa_nil) (by simp))) fun Hx v z => z.N2L) fun v2 H1 e1 i2 => ?_
  refine b_forR1 (K := K) (n := sts.length) (era_cons (Er.to (er_cb (era_cons (er_var rfl (hs.mono e1)) era_nil) rc_lenLd) (by rw [stD_len])) era_nil) (by omega) (fun t σ' H' => ∃ v2 y3 y4 y5 y6, σ' = [some x, some (.int (n : Int)), some v2, y3, y4, y5, y6] ∧ Ex H H' ∧ Is K H' (.L ((rowsT (nmV sts) t).map (qD sts n))) v2) (fun H2 e2 => ⟨v2, none, none, none, none, rfl, e1.trans e2, i2.mono e2⟩) ?_ ?_
  · rintro t σ' H' ht ⟨v2, y3, y4, y5, y6, rfl, e, j2⟩
    have hft := few t
    have hok := rows_ok (nmV sts) t
    have hnx : rowsT (nmV sts) (t + 1) = (rowsT (nmV sts) t).flatMap (moreR (nmV sts)) := rfl
    generalize rowsT (nmV sts) t = rows at *
    refine a_new fun o H2 ho e2 hO => ?_
    have hoH : H' o = none := ho
    refine b_for (K := K) (G := H') (ds := rows.map (qD sts n)) (if_list (ef_var (i := 2) rfl j2)) e2 (fun i σ' G' A' => ∃ y5 y6 us, σ' = [some x, some (.int (n : Int)), some v2, some (.int (t : Int)), some (.ref o), y5, y6] ∧ Ex H' A' ∧ G' o = none ∧ A' o = some (.lst us) ∧ IsE K G' (((rows.take i).flatMap (moreR (nmV sts))).map (qD sts n)) us) (fun G1 A1 s1 => ⟨y5, y6, [], rfl, e2.trans s1.a, s1.f o (by rw [hO]; simp) hoH, s1.a o _ hO, rfl⟩) ?_ ?_
    · rintro G1 eg i d v σ' G' A' G2 A2 hd ⟨z5, z6, us, rfl, ea, go, hus, hE⟩ e3 e4 s2 hv
      obtain ⟨r, hr1, rfl⟩ : ∃ r, rows[i]? = some r ∧ qD sts n r = d := by
        rw [List.getElem?_map] at hd
        cases q : rows[i]? with
        | none => rw [q] at hd; cases hd
        | some r => rw [q] at hd; exact ⟨r, rfl, Option.some.inj hd⟩
      have hi : i < rows.length := (List.getElem?_eq_some_iff.mp hr1).1
      have hrok := hok r (List.mem_of_getElem? hr1)
      have hrl := netT_len h1 hrok.sub
      have go2 : G2 o = none := s2.f o (by rw [hus]; simp) go
      have us2 := s2.a o _ hus
      have eH2 : Ex H' G2 := (eg.trans e3).trans s2.g
      refine f_for (K := K) (G := G2) (ds := stD sts) (if_list (ef_var (i := 0) rfl (hs.mono (e.trans eH2)))) s2.v (fun j σ' G' A' => ∃ z6 us, σ' = [some x, some (.int (n : Int)), some v2, some (.int (t : Int)), some (.ref o), some v, z6] ∧ Ex H' A' ∧ G' o = none ∧ A' o = some (.lst us) ∧ IsE K G' (((rows.take i).flatMap (moreR (nmV sts)) ++ moreR (nmV (sts.take j)) r).map (qD sts n)) us) (fun G3 A3 s3 => ⟨z6, us, rfl, (ea.trans s2.a).trans s3.a, s3.f o (by rw [us2]; simp) go2, s3.a o _ us2, by
        have : moreR (nmV (sts.take 0)) r = [] := rfl
        rw [this, List.append_nil]
        exact IsE.mono (s2.g.trans s3.g) hE⟩) ?_ ?_
      · rintro G3 eg3 j d2 v6 σ' G4 A4 G5 A5 hd2 ⟨z6, us, rfl, ea4, go4, hus4, hE4⟩ e5 e6 s5 hv6
        obtain ⟨p, hp1, rfl⟩ := stD_of hd2
        have hj : j < sts.length := (List.getElem?_eq_some_iff.mp hp1).1
        have hst : stampOf sts p.1 = p.2 := stampOf_first h1.di (List.mem_of_getElem? hp1)
        have hpl := h1.st p (List.mem_of_getElem? hp1)
        have go5 : G5 o = none := s5.f o (by rw [hus4]; simp) go4
        have us5 := s5.a o _ hus4
        have hvr : Is K G5 (qD sts n r) v := hv.mono ((eg3.trans e5).trans s5.g)
        have lns : us.length ≤ 50000 := by
          have q1 := flat_len (ns := nmV sts) (rows.take i)
          have q2 := more_len (ns := nmV (sts.take j)) (r := r)
          have q3 : (nmV (sts.take j)).length ≤ 7 := by rw [nmV, List.length_map, List.length_take]; omega
          have q4 : (rows.take i).length ≤ 5040 := by rw [List.length_take]; omega
          have q5 : (rows.take i).length * (nmV sts).length ≤ 5040 * 7 := Nat.mul_le_mul q4 (by omega)
          rw [← isE_len hE4, List.length_map, List.length_append]
          omega
        refine a_when1 (K := K) (b := !decide (p.1 ∈ r)) (et1 (er_op (er_place (i := 0) (ds := [.s (S p.1), .s (S p.2)]) (er_var rfl (hv6.mono s5.v)) er_c rfl) (er_place (i := 0) (ds := [.n (vsl r), .s (S (netT sts n r))]) (er_var rfl (hvr.mono s5.v)) er_c rfl) ro_notInT)) (fun hb A6 e7 => ?_) fun hb A6 e7 => ?_
        · have hnr : p.1 ∉ r := by simpa using hb
          have lr : r.length ≤ 7 := by
            have := hrok.nd
            have h3 := rest_len h1.di hrok
            have h4 := hrok.l
            omega
          refine s_app (K := K) (G := G5) (d := qD sts n (r ++ [p.1])) (e7 o _ us5) go5 (s5.v.trans e7) (er_v rfl) (Ef.as (ef_N (efa_cons (Ef.to (ef_op (ef_place (i := 0) (ds := [.n (vsl r), .s (S (netT sts n r))]) (ef_var rfl hvr) er_c rfl) (ef_lstn (vs := [.str (S p.1)]) (era_cons (er_place (i := 0) (ds := [.s (S p.1), .s (S p.2)]) (er_var rfl hv6) er_c rfl) era_nil) (by simp)) (rof_cat (by rw [vsl_len]; simp; omega))) (by rw [vsl_app])) (efa_cons (ef_flat (Er.to (er_call (netT sts n r, p.2) (era_cons (er_place (i := 1) (ds := [.n (vsl r), .s (S (netT sts n r))]) (er_var rfl hvr) er_c rfl) (era_cons (er_place (i := 1) (ds := [.s (S p.1), .s (S p.2)]) (er_var rfl hv6) er_c rfl) era_nil)) rfl ⟨by show (netT sts n r).length = p.2.length; omega, by show (netT sts n r).length ≤ 1000; omega⟩) (by rw [netT_app, hst]))) efa_nil)) (by simp)) fun _ _ z => z.N2L) (by omega) fun w7 G8 A8 s8 z8 go8 us8 => ?_
          refine ⟨G8, ⟨some v6, us ++ [w7], rfl, Ex.mut ((ea4.trans s5.a).trans (e7.trans s8.a)) hoH, go8, upd_same, ?_⟩, (e5.trans s5.g).trans s8.g, s8.v.mut go8⟩
          rw [more_next hp1, if_neg hnr, ← List.append_assoc, List.map_append]
          exact isE_app (IsE.mono (s5.g.trans s8.g) hE4) ⟨w7, [], rfl, z8, rfl⟩
        · have hnr : p.1 ∈ r := by simpa using hb
          refine ⟨G5, ⟨some v6, us, rfl, (ea4.trans s5.a).trans e7, go5, e7 o _ us5, ?_⟩, e5.trans s5.g, s5.v.trans e7⟩
          rw [more_next hp1, if_pos hnr, List.append_nil]
          exact IsE.mono s5.g hE4
      · rintro σ' G4 A4 eg4 ev4 ⟨z6, us, rfl, ea4, go4, hus4, hE4⟩
        refine ⟨G4, ⟨some v, z6, us, rfl, ea4, go4, hus4, ?_⟩, (e3.trans s2.g).trans eg4, ev4⟩
        rw [stD_len, List.take_length] at hE4
        rw [flat_next hr1]
        exact hE4
    · rintro σ' G4 A4 eg4 ev4 ⟨z5, z6, us, rfl, ea4, go4, hus4, hE4⟩
      rw [List.length_map, List.take_length, ← hnx] at hE4
      refine a_asg1 (K := K) (d := .L ((rowsT (nmV sts) (t + 1)).map (qD sts n))) (Er.as (er_cb (era_cons (er_var (d := .L ((rowsT (nmV sts) (t + 1)).map (qD sts n))) rfl (Is.N2L ⟨o, us, rfl, hus4, IsE.mono ev4 hE4⟩)) era_nil) rc_listLd) fun _ _ z => z.N2L) fun v7 H7 e7 i7 => ?_
      exact ⟨v7, _, _, _, _, rfl, (e.trans ea4).trans e7, i7⟩
  · rintro σ' H' ⟨v2, y3, y4, y5, y6, rfl, e, j2⟩
    have hft := few sts.length
    refine a_rete (K := K) (d := .L ((netsM sts n).map rD)) (Er.as (Ef.er (ef_lc (K := K) (G := H') (its := rowsT (nmV sts) sts.length) (inj := qD sts n) (vs := [5]) (fun _ => true) (fun r => rD (r, netT sts n r)) (if_list (ef_var (i := 2) rfl j2)) (by omega) (fun i r v G' A' g1 g2 hi hv => ⟨_, fun Q q => q, rfl, fun H2 e Q q => q H2 (Ex.refl _), fun _ => Ef.as (ef_N (efa_cons (ef_cb (efa_cons (Ef.as (ef_place (i := 0) (ds := [.n (vsl r), .s (S (netT sts n r))]) (ef_var rfl hv) er_c rfl) fun _ _ z => is_cast z.n2N (by rw [tsD_vsl])) efa_nil) rf_tupN) (efa_cons (ef_flat (er_place (i := 1) (ds := [.n (vsl r), .s (S (netT sts n r))]) (er_var rfl hv) er_c rfl)) efa_nil)) (by simp)) fun _ _ z => z.N2L⟩))) fun Hx v z => is_cast z.N2L (by rw [filt_true, netsM, List.map_map]; rfl)) rfl e hk
end
end Mi

set_option maxHeartbeats 4000000
namespace Mi
open PySem PySem.Spec PyProof.Rows L2 Evl
local macro_rules | `(tactic| walk_at "side") => `(tactic| (first | assumption | omega | exact rfl | decide | (simp only [List.length_cons, List.length_nil, List.length_map, List.length_append, List.length_replicate] <;> omega)))
local macro_rules | `(tactic| walk_at "ro") => `(tactic| (first
  | with_reducible exact ro_I0
  | with_reducible exact ro_1018
  | with_reducible exact ro_neC
  | with_reducible exact ro_eqC
  | with_reducible exact ro_neI
  | with_reducible exact ro_eqI
  | with_reducible exact ro_neB
  | with_reducible exact ro_eqB
  | ((with_reducible apply ro_mod); (walk_at "side"))
  | ((with_reducible apply ro_div) <;> (walk_at "side"))
  | ((with_reducible apply ro_divW) <;> (walk_at "side"))
  | with_reducible exact ro_1012
  | with_reducible exact ro_1015
  | ((with_reducible apply ro_mulL) <;> (walk_at "side"))
  | ((with_reducible apply ro_mulR) <;> (walk_at "side"))
  | ((with_reducible apply ro_addC); (walk_at "side"))
  | ((with_reducible apply ro_ixC) <;> (walk_at "side"))
  | ((with_reducible apply ro_ixI) <;> (walk_at "side"))
  | ((with_reducible apply ro_ixIN) <;> (walk_at "side"))
  | ((with_reducible apply ro_ixT2) <;> (walk_at "side"))
  | ((with_reducible apply ro_ixG) <;> (walk_at "side"))
  | ((with_reducible apply ro_eq); exact rfl)
  | ((with_reducible apply ro_ne); exact rfl)
  | with_reducible exact ro_isN
  | with_reducible exact ro_notN
  | with_reducible exact ro_eqL
  | with_reducible exact ro_neL
  | with_reducible exact ro_eqU
  | ((with_reducible apply ro_cat); (walk_at "side"))
  | with_reducible exact ro_inLi
  | with_reducible exact ro_inNi
  | with_reducible exact ro_inUi
  | ((with_reducible apply ro_inL) <;> (walk_at "side"))
  | ((with_reducible apply ro_inN) <;> (walk_at "side"))
  | ((with_reducible apply ro_inU) <;> (walk_at "side"))))
local macro_rules | `(tactic| walk_at "rc") => `(tactic| (first
  | with_reducible exact rc_int
  | with_reducible exact rc_intB
  | with_reducible exact rc_max2
  | ((with_reducible apply rc_lenC); (walk_at "side"))
  | with_reducible exact rc_lenI
  | with_reducible exact rc_lenT
  | with_reducible exact rc_lenIN
  | with_reducible exact rc_lenTN
  | with_reducible exact rc_lenL
  | with_reducible exact rc_lenN
  | with_reducible exact rc_lenU
  | with_reducible exact rc_listL
  | with_reducible exact rc_listU
  | with_reducible exact rc_tupL
  | with_reducible exact rc_tupN
  | ((with_reducible apply rc_isi_int); decide +kernel)
  | ((with_reducible apply rc_isi_str); decide +kernel)
  | ((with_reducible apply rc_isi_bl); decide +kernel)
  | ((with_reducible apply rc_isi_non); decide +kernel)
  | ((with_reducible apply rc_isi_u); decide +kernel)
  | ((with_reducible apply rc_isi_l); decide +kernel)))
local macro_rules | `(tactic| walk_at "er") => `(tactic| (first
  | ((with_reducible apply er_var); (exact rfl); assumption)
  | ((with_reducible apply er_v); exact rfl)
  | with_reducible exact er_c
  | ((with_reducible apply er_pick); (walk_at "er"); (walk_at "er"); (walk_at "er"))
  | ((with_reducible apply er_op); (walk_at "er"); (walk_at "er"); (walk_at "ro"))
  | ((with_reducible apply er_cb); (walk_at "era"); (walk_at "rc"))
  | ((with_reducible apply er_lst'); (walk_at "era"); (exact rfl); (walk_at "side"))
  | ((with_reducible apply er_tup'); (walk_at "era"); (exact rfl); (walk_at "side"))
  | ((with_reducible apply er_notV); (walk_at "er"))
  | ((with_reducible apply er_andV); (walk_at "er"); (intro _; (walk_at "er")))
  | ((with_reducible apply er_orV); (walk_at "er"); (intro _; (walk_at "er")))
  | ((with_reducible apply er_ite); (walk_at "et"); (intro _; (walk_at "er")); (intro _; (walk_at "er")))))
local macro_rules | `(tactic| walk_at "era") => `(tactic| (first
  | with_reducible exact era_nil
  | ((with_reducible apply era_cons); (walk_at "er"); (walk_at "era"))))
local macro_rules | `(tactic| walk_at "et") => `(tactic| (first
  | ((with_reducible apply et_an); (walk_at "et"); (intro _; (walk_at "et")))
  | ((with_reducible apply et_orr); (walk_at "et"); (intro _; (walk_at "et")))
  | ((with_reducible apply et_nt); (walk_at "et"))
  | ((with_reducible apply et1); (walk_at "er"))
  | ((with_reducible apply et2); (walk_at "er"))))

section
variable {K : PySem.W.Frag} {σ : L2.St} {G H : Hp} {te tl tb ta : TE} {tr : TA} {ds : List Dd}
theorem er_cutTo {n : Nat} {xs : List V} (h : Er K te σ H (.l xs)) (h2 : Er K tb σ H (.i (n : Int))) : Er K (tSl (rSlL K) te tNoPart (tPart tb)) σ H (.n (xs.take n)) := by
  have ec : cutV xs none (some (n : Int)) = xs.take n := by
    unfold cutV
    rw [HT.sIx_none, HT.sIx_nat]
    rw [List.drop_zero, Nat.sub_zero, List.take_eq_take_iff]
    omega
  rw [← ec]
  exact er_slL h eo_non (eo_of h2)
theorem er_cutFrom {n : Nat} {xs : List V} (h : Er K te σ H (.l xs)) (h2 : Er K tb σ H (.i (n : Int))) : Er K (tSl (rSlL K) te (tPart tb) tNoPart) σ H (.n (xs.drop n)) := by
  rw [← cutV_from]
  exact er_slL h (eo_of h2) eo_non
theorem ef_slTo {n : Nat} {xs : List V} (h : Ef K te σ G (.l xs)) (h2 : Er K tb σ G (.i (n : Int))) : Ef K (tSl (rSlL K) te tNoPart (tPart tb)) σ G (.n (xs.take n)) := fun G1 A1 e1 e2 _ q =>
  h G1 A1 e1 e2 _ fun v G2 A2 s2 ⟨p, ep, hp⟩ => eo_non A2 (((e1.trans s2.g).trans s2.v)) _ fun A3 e3 => eo_of h2 A3 (((e1.trans s2.g).trans s2.v).trans e3) _ fun A4 e4 => by
    subst ep
    have s4 := s2.trans (Step.on s2.v (e3.trans e4))
    have ec : cutV xs none (some (n : Int)) = xs.take n := by
      unfold cutV
      rw [HT.sIx_none, HT.sIx_nat]
      rw [List.drop_zero, Nat.sub_zero, List.take_eq_take_iff]
      omega
    refine ⟨p, xs, rfl, ex_l s4.v hp, fun l hl => q _ (upd G2 l (.lst (xs.take n))) _ ?_ ⟨l, rfl, upd_same⟩⟩
    rw [ec]
    exact s4.trans (Step.new s4.v hl)
theorem ef_slFrom {n : Nat} {xs : List V} (h : Ef K te σ G (.l xs)) (h2 : Er K tb σ G (.i (n : Int))) : Ef K (tSl (rSlL K) te (tPart tb) tNoPart) σ G (.n (xs.drop n)) := fun G1 A1 e1 e2 _ q =>
  h G1 A1 e1 e2 _ fun v G2 A2 s2 ⟨p, ep, hp⟩ => eo_of h2 A2 ((e1.trans s2.g).trans s2.v) _ fun A3 e3 => eo_non A3 (((e1.trans s2.g).trans s2.v).trans e3) _ fun A4 e4 => by
    subst ep
    have s4 := s2.trans (Step.on s2.v (e3.trans e4))
    refine ⟨p, xs, rfl, ex_l s4.v hp, fun l hl => q _ (upd G2 l (.lst (xs.drop n))) _ ?_ ⟨l, rfl, upd_same⟩⟩
    rw [cutV_from]
    exact s4.trans (Step.new s4.v hl)
end
theorem mod_nat {a : Int} {n : Nat} (h : 0 < n) : (((a % (n : Int)).toNat : Nat) : Int) = a % (n : Int) ∧ (a % (n : Int)).toNat < n := by
  have q0 : 0 ≤ a % (n : Int) := Int.emod_nonneg _ (by omega)
  have q1 : a % (n : Int) < (n : Int) := Int.emod_lt_of_pos _ (by omega)
  omega
section
variable {P : Program} {w : World} {K : PySem.W.Frag} {mg : Str → Option Value} {base : Heap}
/-! ### a stamp drawn -/
abbrev s__law_stamp : Stmt := topS 42
theorem sc__law_stamp : FnScope ["marks", "row", "dashes", "menu", "text", "at", "digit"] ["marks", "row", "dashes"] (defScope s__law_stamp) := ⟨rfl, rfl, rfl, by decide +kernel, rfl, by decide +kernel, by decide +kernel⟩

def stMenu (marks : List Nat) (dashes : Nat) : List Nat := List.replicate dashes 45 ++ [marks.getD 0 0] ++ [marks.getD 0 0] ++ [marks.getD 1 0] ++ [marks.getD 2 0]
theorem stMenu_len {marks : List Nat} {dashes : Nat} : (stMenu marks dashes).length = dashes + 4 := by simp [stMenu]
def st0 (marks : List Nat) (row : List Int) (dashes : Nat) : List Nat := row.map fun d => (stMenu marks dashes).getD d.toNat 0
def stFix (marks : List Nat) (row : List Int) (t : List Nat) : List Nat := t.take (row.sum % (row.length : Int)).toNat ++ [marks.getD (row.getD 0 0 % 2).toNat 0] ++ t.drop ((row.sum % (row.length : Int)).toNat + 1)
def stM (marks : List Nat) (row : List Int) (dashes : Nat) : List Nat := if st0 marks row dashes = List.replicate row.length 45 then stFix marks row (st0 marks row dashes) else st0 marks row dashes
structure RowD (row : List Int) (dashes : Nat) : Prop where
  one : 1 ≤ row.length
  few : row.length ≤ 1000
  lo : ∀ d ∈ row, 0 ≤ d
  hi : ∀ d ∈ row, d < (dashes : Int) + 4
abbrev sp__law_stamp (K : PySem.W.Frag) : Sp := spR K (fun a : List Nat × List Int × Nat => a.1.length = 3 ∧ RowD a.2.1 a.2.2 ∧ a.2.2 ≤ 100) (fun a => [.s (S a.1), .l (vis a.2.1), .i (a.2.2 : Int)]) fun a => .s (S (stM a.1 a.2.1 a.2.2))
theorem has__law_stamp (T : Txt K mg) (h : At K mg "_law_stamp" s__law_stamp ["marks", "row", "dashes"]) : Has P w K mg base 1 "_law_stamp" ["marks", "row", "dashes"] (sp__law_stamp K) := by
  refine h.hasR sc__law_stamp (fun _ => rfl) fun f cdv A outer s H a vs Q E hr hp hv hk => ?_
  obtain ⟨marks, row, dashes⟩ := a
  obtain ⟨h1, h2, h3⟩ := hp
  replace h1 : marks.length = 3 := h1
  replace h2 : RowD row dashes := h2
  replace h3 : dashes ≤ 100 := h3
  rcases hv with _ | ⟨rfl, _ | ⟨hs, _ | ⟨rfl, _ | _⟩⟩⟩
  rename_i x
  replace hs : Is K H (.l (vis row)) x := hs
  have sc := sc__law_stamp
  have hml : (stMenu marks dashes).length = dashes + 4 := stMenu_len
  have h0 := h2.one
  have hf := h2.few
  have l0 : (st0 marks row dashes).length = row.length := by rw [st0, List.length_map]
  obtain ⟨q1, q2⟩ := mod_nat (a := row.sum) (n := row.length) (by omega)
  refine ⟨_, (pss_cons (ps_set (i := 3) sc.nd rfl (Or.inr rfl) (pe_op op_addS (pe_op op_addS (pe_op op_addS (pe_op op_addS (pe_op op_mulS (pe_strS [45] (by rfl)) (pv 2)) (pe_ix ix_str (pv 0) pe_int (fun _ _ => rfl))) (pe_ix ix_str (pv 0) pe_int (fun _ _ => rfl))) (pe_ix ix_str (pv 0) pe_int (fun _ _ => rfl))) (pe_ix ix_str (pv 0) pe_int (fun _ _ => rfl))))
    (pss_cons (ps_set (i := 4) sc.nd rfl (Or.inl rfl) (pe_bm_k (K := K) PySem.F.plainAttrs_str PySem.F.slot_str_join PySem.F.type_str_join (mt_join_k (K := K)) (pe_strS [] (by rfl)) (pa_cons (pe_lc (own := [("digit", 6)]) (g := gName 6) (by rfl) sc.nd (pi_list_k (K := K) (pv 1)) (blkOk_by (N := ["marks", "row", "dashes", "menu", "text", "at", "digit"]) (sc := defScope s__law_stamp) (own := [("digit", 6)]) (by decide +kernel)) (fun _ _ _ _ _ => (pg_name (i := 6) sc.nd rfl (Or.inl rfl))) (fun _ _ _ _ _ => pts_nil) (fun _ _ _ _ _ => (pe_ix ix_str (pv 3) (pe_callTy cr_int (by rfl) T.b_int (by decide +kernel) (pa_cons (pv 6) pa_nil)) (fun _ _ => rfl)))) pa_nil)))
    (pss_cons (ps_if (pt_cmpR op_eq (pv 4) (pe_op op_mulS (pe_strS [45] (by rfl)) (pe_callB (cr_len_k (K := K)) (by rfl) T.b_len (by decide +kernel) (pa_cons (pv 1) pa_nil))) (nomark _)) (pss_cons (ps_set (i := 5) sc.nd rfl (Or.inl rfl) (pe_op op_mod (pe_callTy cr_int (by rfl) T.b_int (by decide +kernel) (pa_cons (pe_callB (cr_sum_k (K := K)) (by rfl) T.b_sum (by decide +kernel) (pa_cons (pv 1) pa_nil)) pa_nil)) (pe_callB (cr_len_k (K := K)) (by rfl) T.b_len (by decide +kernel) (pa_cons (pv 1) pa_nil))))
    (pss_one (ps_set (i := 4) sc.nd rfl (Or.inl rfl) (pe_op op_addS (pe_op op_addS (pe_slice sl_str (pv 4) po_none (po_some (pv 5))) (pe_ix ix_str (pv 0) (pe_op op_mod (pe_callTy cr_int (by rfl) T.b_int (by decide +kernel) (pa_cons (pe_ix (ix_list_k (K := K)) (pv 1) pe_int (fun _ _ => rfl)) pa_nil)) pe_int) (fun _ _ => rfl))) (pe_slice sl_str (pv 4) (po_some (pe_op op_add (pv 5) pe_int)) po_none))))) pss_nil)
    (pss_one (ps_ret (pv 4)))))), ?_⟩
  refine a_setv (K := K) (x := .str (S (stMenu marks dashes))) (er_op (d1 := .s (S (List.replicate dashes 45 ++ [marks.getD 0 0] ++ [marks.getD 0 0] ++ [marks.getD 1 0]))) (d2 := .s (S [marks.getD 2 0])) (er_op (d1 := .s (S (List.replicate dashes 45 ++ [marks.getD 0 0] ++ [marks.getD 0 0]))) (d2 := .s (S [marks.getD 1 0])) (er_op (d1 := .s (S (List.replicate dashes 45 ++ [marks.getD 0 0]))) (d2 := .s (S [marks.getD 0 0])) (er_op (d1 := .s (S (List.replicate dashes 45))) (d2 := .s (S [marks.getD 0 0])) (er_dash er_c (er_v rfl) (by omega)) (er_sign (n := 0) (er_v rfl) er_c (by omega) (by omega)) (ro_addC (by simp; omega))) (er_sign (n := 0) (er_v rfl) er_c (by omega) (by omega)) (ro_addC (by simp; omega))) (er_sign (n := 1) (er_v rfl) er_c (by omega) (by omega)) (ro_addC (by simp; omega))) (er_sign (n := 2) (er_v rfl) er_c (by omega) (by omega)) (ro_addC (by simp; omega))) fun H1 e1 => ?_
  refine a_setv (K := K) (x := .str (S (st0 marks row dashes))) (er_bm (K := K) (d0 := .s (S [])) (ds := [.n ((st0 marks row dashes).map fun c => V.str (S [c]))]) er_c (era_cons (Er.to (er_lcL (K := K) (its := row) (inj := fun d : Int => V.int d) (vs := [6]) (fun _ => true) (fun d => V.str (S [(stMenu marks dashes).getD d.toNat 0])) (er_var rfl (hs.mono e1)) (by omega) (fun _ => rfl) (fun i d H5 e5 hi H6 e6 Q q => q H6 (Ex.refl _)) (fun i d H5 e5 hi _ => ?_)) ?_) era_nil) (rm_joinC (by rw [l0]; omega))) fun H2 e2 => ?_
  · have hlo := h2.lo d (List.mem_of_getElem? hi)
    have hhi := h2.hi d (List.mem_of_getElem? hi)
    exact er_op (d1 := .s (S (stMenu marks dashes))) (d2 := .i d) (er_v rfl) (er_cb (era_cons (er_v rfl) era_nil) rc_int) (ro_ixC hlo (by rw [hml]; omega) (by rw [hml]; omega))
  · rw [filt_true, st0, List.map_map]
    rfl
  have E2 := e1.trans e2
  refine a_when (K := K) (b := decide (st0 marks row dashes = List.replicate row.length 45)) (et1 (er_op (er_v rfl) (er_dash er_c (er_cb (era_cons (er_var rfl (hs.mono E2)) era_nil) rc_lenI) hf) ro_eqC)) (fun hb H3 e3 => ?_) fun hb H3 e3 => ?_
  · have hb' : st0 marks row dashes = List.replicate row.length 45 := of_decide_eq_true hb
    have hs3 := hs.mono (E2.trans e3)
    refine a_setv (K := K) (x := .int (((row.sum % (row.length : Int)).toNat : Nat) : Int)) (Er.to (er_op (er_cb (era_cons (er_cb (era_cons (er_var rfl hs3) era_nil) rc_sumI) era_nil) rc_int) (er_cb (era_cons (er_var rfl hs3) era_nil) rc_lenI) (ro_mod (by omega : (0 : Int) < (row.length : Int)))) (congrArg Dd.i q1.symm)) fun H4 e4 => ?_
    have m0 : 0 ≤ row.getD 0 0 % 2 := Int.emod_nonneg _ (by decide)
    have m1 : row.getD 0 0 % 2 < 2 := Int.emod_lt_of_pos _ (by decide)
    refine a_setv1 (K := K) (x := .str (S (stFix marks row (st0 marks row dashes)))) (er_op (K := K) (d1 := .s (S ((st0 marks row dashes).take (row.sum % (row.length : Int)).toNat ++ [marks.getD (row.getD 0 0 % 2).toNat 0]))) (d2 := .s (S ((st0 marks row dashes).drop ((row.sum % (row.length : Int)).toNat + 1)))) (er_op (K := K) (d1 := .s (S ((st0 marks row dashes).take (row.sum % (row.length : Int)).toNat))) (d2 := .s (S [marks.getD (row.getD 0 0 % 2).toNat 0])) (er_slTo (er_v rfl) (by omega) (er_v rfl)) (er_op (d1 := .s (S marks)) (d2 := .i (row.getD 0 0 % 2)) (er_v rfl) (er_op (er_cb (era_cons (er_num (n := 0) (er_var rfl (hs3.mono e4)) er_c (by omega)) era_nil) rc_int) er_c (ro_mod (by decide))) (ro_ixC m0 (by omega) (by omega))) (ro_addC (by simp; omega))) (er_slFrom (er_v rfl) (by omega) (er_op (er_v rfl) er_c ro_I0)) (ro_addC (by simp; omega))) fun H5 e5 => ?_
    refine a_rete (K := K) (er_v rfl) ?_ (((E2.trans e3).trans e4).trans e5) hk
    show Dd.s (S (stFix marks row (st0 marks row dashes))) = Dd.s (S (stM marks row dashes))
    unfold stM
    rw [if_pos hb']
  · have hb' : ¬ st0 marks row dashes = List.replicate row.length 45 := of_decide_eq_false hb
    refine a_rete (K := K) (er_v rfl) ?_ (E2.trans e3) hk
    show Dd.s (S (st0 marks row dashes)) = Dd.s (S (stM marks row dashes))
    unfold stM
    rw [if_neg hb']
/-! ### a sheet drawn -/
abbrev s__law_sheet : Stmt := topS 49
theorem sc__law_sheet : FnScope ["marks", "row", "size", "k"] ["marks", "row", "size"] (defScope s__law_sheet) := ⟨rfl, rfl, rfl, by decide +kernel, rfl, by decide +kernel, by decide +kernel⟩

abbrev sp__law_sheet (K : PySem.W.Frag) : Sp := spR K (fun a : List Nat × List Int × Nat => a.1.length = 3 ∧ a.2.2 ≤ a.2.1.length ∧ a.2.2 ≤ 1000) (fun a => [.s (S a.1), .l (vis a.2.1), .i (a.2.2 : Int)]) fun a => .s (S (pickM ([a.1.getD 0 0] ++ a.1) 4 a.2.1 a.2.2))
theorem has__law_sheet (T : Txt K mg) (h : At K mg "_law_sheet" s__law_sheet ["marks", "row", "size"]) : Has P w K mg base 1 "_law_sheet" ["marks", "row", "size"] (sp__law_sheet K) := by
  refine h.hasR sc__law_sheet (fun _ => rfl) fun f cdv A outer s H a vs Q E hr hp hv hk => ?_
  obtain ⟨marks, row, size⟩ := a
  obtain ⟨h1, h2, h3⟩ := hp
  replace h1 : marks.length = 3 := h1
  replace h2 : size ≤ row.length := h2
  replace h3 : size ≤ 1000 := h3
  rcases hv with _ | ⟨rfl, _ | ⟨hs, _ | ⟨rfl, _ | _⟩⟩⟩
  rename_i x
  replace hs : Is K H (.l (vis row)) x := hs
  have sc := sc__law_sheet
  refine ⟨_, (pss_one (ps_ret (pe_bm_k (K := K) PySem.F.plainAttrs_str PySem.F.slot_str_join PySem.F.type_str_join (mt_join_k (K := K)) (pe_strS [] (by rfl)) (pa_cons (pe_lc (own := [("k", 3)]) (g := gName 3) (by rfl) sc.nd (pi_range1 (by rfl) T.b_range (pa_cons (pv 2) pa_nil)) (blkOk_by (N := ["marks", "row", "size", "k"]) (sc := defScope s__law_sheet) (own := [("k", 3)]) (by decide +kernel)) (fun _ _ _ _ _ => (pg_name (i := 3) sc.nd rfl (Or.inl rfl))) (fun _ _ _ _ _ => pts_nil) (fun _ _ _ _ _ => (pe_ix ix_str (pe_op op_addS (pe_ix ix_str (pv 0) pe_int (fun _ _ => rfl)) (pv 0)) (pe_op op_mod (pe_callTy cr_int (by rfl) T.b_int (by decide +kernel) (pa_cons (pe_ix (ix_list_k (K := K)) (pv 1) (pv 3) (fun _ _ => rfl)) pa_nil)) pe_int) (fun _ _ => rfl)))) pa_nil)))), ?_⟩
  refine a_rete (K := K) (d := .s (S (pickM ([marks.getD 0 0] ++ marks) 4 row size))) (er_bm (K := K) (d0 := .s (S [])) (ds := [.n ((pickM ([marks.getD 0 0] ++ marks) 4 row size).map fun c => V.str (S [c]))]) er_c (era_cons (Er.to (er_lcR' (K := K) (n := size) (vs := [3]) (fun k => V.str (S [([marks.getD 0 0] ++ marks).getD (row.getD k 0 % ((4 : Nat) : Int)).toNat 0])) (era_cons (er_v rfl) era_nil) (by omega) (fun _ => rfl) ?_) ?_) era_nil) (rm_joinC (by rw [pickM_len]; omega))) rfl (Ex.refl H) hk
  · intro i H1 e hi
    exact er_menu (m := 4) (er_op (d1 := .s (S [marks.getD 0 0])) (d2 := .s (S marks)) (er_sign (n := 0) (er_v rfl) er_c (by omega) (by omega)) (er_v rfl) (ro_addC (by simp; omega))) (er_var rfl (hs.mono e)) (er_v rfl) (by decide) (by simp; omega) (by simp; omega) (by omega)
  · rw [pickM, List.map_map]
    rfl
/-! ### the numbers in another order -/
abbrev s__law_turned : Stmt := topS 51
theorem sc__law_turned : FnScope ["many", "row", "rest", "mixed", "k", "at"] ["many", "row"] (defScope s__law_turned) := ⟨rfl, rfl, rfl, by decide +kernel, rfl, by decide +kernel, by decide +kernel⟩

def turnM (many : Nat) (row : List Int) : Nat → List Int × List Int
  | 0 => ((List.range many).map fun k : Nat => (k : Int), [])
  | k + 1 => ((turnM many row k).1.take (row.getD k 0 % ((turnM many row k).1.length : Int)).toNat ++ (turnM many row k).1.drop ((row.getD k 0 % ((turnM many row k).1.length : Int)).toNat + 1), (turnM many row k).2 ++ [(turnM many row k).1.getD (row.getD k 0 % ((turnM many row k).1.length : Int)).toNat 0])
theorem turnM_ok {many : Nat} {row : List Int} : ∀ k, k ≤ many → (turnM many row k).1.length = many - k ∧ (turnM many row k).2.length = k ∧ (∀ d ∈ (turnM many row k).1, 0 ≤ d ∧ d < (many : Int)) ∧ ∀ d ∈ (turnM many row k).2, 0 ≤ d ∧ d < (many : Int)
  | 0, _ => by
    refine ⟨by simp [turnM], rfl, fun d hd => ?_, fun d hd => by cases hd⟩
    obtain ⟨k, hk, rfl⟩ := List.mem_map.mp hd
    have := List.mem_range.mp hk
    omega
  | k + 1, hk => by
    obtain ⟨i1, i2, i3, i4⟩ := turnM_ok (many := many) (row := row) k (by omega)
    unfold turnM
    generalize turnM many row k = st at *
    obtain ⟨r, m⟩ := st
    replace i1 : r.length = many - k := i1
    replace i2 : m.length = k := i2
    replace i3 : ∀ d ∈ r, 0 ≤ d ∧ d < (many : Int) := i3
    replace i4 : ∀ d ∈ m, 0 ≤ d ∧ d < (many : Int) := i4
    obtain ⟨q1, q2⟩ := mod_nat (a := row.getD k 0) (n := r.length) (by omega)
    refine ⟨?_, ?_, fun d hd => ?_, fun d hd => ?_⟩
    · show (r.take (row.getD k 0 % (r.length : Int)).toNat ++ r.drop ((row.getD k 0 % (r.length : Int)).toNat + 1)).length = _
      rw [List.length_append, List.length_take, List.length_drop]
      omega
    · show (m ++ [_]).length = _
      rw [List.length_append, i2]
      rfl
    · rcases List.mem_append.mp hd with hd | hd
      · exact i3 d (List.mem_of_mem_take hd)
      · exact i3 d (List.mem_of_mem_drop hd)
    · rcases List.mem_append.mp hd with hd | hd
      · exact i4 d hd
      · rw [List.mem_singleton.mp hd]
        exact i3 _ (getD_memL q2)
abbrev sp__law_turned (K : PySem.W.Frag) : Sp := spR K (fun a : Nat × List Int => a.1 ≤ a.2.length ∧ a.1 ≤ 1000) (fun a => [.i (a.1 : Int), .l (vis a.2)]) fun a => .n (vis (turnM a.1 a.2 a.1).2)
theorem has__law_turned (T : Txt K mg) (h : At K mg "_law_turned" s__law_turned ["many", "row"]) : Has P w K mg base 1 "_law_turned" ["many", "row"] (sp__law_turned K) := by
  refine h.hasR sc__law_turned (fun _ => rfl) fun f cdv A outer s H a vs Q E hr hp hv hk => ?_
  obtain ⟨many, row⟩ := a
  obtain ⟨h1, h2⟩ := hp
  replace h1 : many ≤ row.length := h1
  replace h2 : many ≤ 1000 := h2
  rcases hv with _ | ⟨rfl, _ | ⟨hs, _ | _⟩⟩
  rename_i x
  replace hs : Is K H (.l (vis row)) x := hs
  have sc := sc__law_turned
  refine ⟨_, (pss_cons (ps_setLc (i := 2) (own := [("k", 4)]) (g := gName 4) (by rfl) sc.nd rfl rfl (sw_true rfl rfl rfl (by decide +kernel)) (pi_range1 (by rfl) T.b_range (pa_cons (pv 0) pa_nil)) (blkOk_by (N := ["many", "row", "rest", "mixed", "k", "at"]) (sc := defScope s__law_turned) (own := [("k", 4)]) (by decide +kernel)) (fun _ _ _ _ _ => (pg_name (i := 4) sc.nd rfl (Or.inl rfl))) (fun _ _ _ _ _ => pts_nil) (fun _ _ _ _ _ => (pv 4)))
    (pss_cons (ps_set (i := 3) sc.nd rfl (Or.inl rfl) (pe_lst pa_nil))
    (pss_cons (ps_for PassesOwn.never rfl (pi_range1 (by rfl) T.b_range (pa_cons (pv 0) pa_nil)) (pg_name (i := 4) sc.nd rfl (Or.inl rfl)) (pss_cons (ps_set (i := 5) sc.nd rfl (Or.inl rfl) (pe_op op_mod (pe_callTy cr_int (by rfl) T.b_int (by decide +kernel) (pa_cons (pe_ix (ix_list_k (K := K)) (pv 1) (pv 4) (fun _ _ => rfl)) pa_nil)) (pe_callB (cr_len_k (K := K)) (by rfl) T.b_len (by decide +kernel) (pa_cons (pv 2) pa_nil))))
    (pss_cons (ps_expr (pe_bm_k (K := K) PySem.F.plainAttrs_list PySem.F.slot_list_append PySem.F.type_list_append mt_append (pv 3) (pa_cons (pe_ix (ix_list_k (K := K)) (pv 2) (pv 5) (fun _ _ => rfl)) pa_nil)))
    (pss_one (ps_set (i := 2) sc.nd rfl (Or.inl rfl) (pe_op op_cat (pe_slice (sl_list_k (K := K)) (pv 2) po_none (po_some (pv 5))) (pe_slice (sl_list_k (K := K)) (pv 2) (po_some (pe_op op_add (pv 5) pe_int)) po_none)))))))
    (pss_one (ps_ret (pv 3)))))), ?_⟩
  refine a_asg (K := K) (d := .n (vis (turnM many row 0).1)) (Er.to (er_lcR' (K := K) (n := many) (vs := [4]) (fun k => .int (k : Int)) (era_cons (er_v rfl) era_nil) (by omega) (fun _ => rfl) (fun i H1 e hi => er_v rfl)) (by unfold turnM; rw [vis, List.map_map]; rfl)) fun v2 H1 e1 i2 => ?_
  refine a_new fun o H2 ho1 e2 h2o => ?_
  have ho : H o = none := ex_out e1 ho1
  refine b_for (K := K) (G := H1) (ds := (List.range many).map fun i : Nat => Dd.i (i : Int)) (if_range (era_cons (er_v rfl) era_nil) (by omega)) e2 (fun k σ' G' A' => ∃ v2 y4 y5, σ' = [some (.int (many : Int)), some x, some v2, some (.ref o), y4, y5] ∧ Ex H A' ∧ Ex H G' ∧ Is K G' (.n (vis (turnM many row k).1)) v2 ∧ G' o = none ∧ A' o = some (.lst (vis (turnM many row k).2))) (fun G3 A3 s3 => ⟨v2, none, none, rfl, (e1.trans e2).trans s3.a, e1.trans s3.g, i2.mono s3.g, s3.f o (by rw [h2o]; simp) ho1, s3.a o _ h2o⟩) ?_ ?_
  · rintro G1 eg k d v σ' G' A' G2 A2 hd ⟨v2, y4, y5, rfl, e, eG, j2, go, hO⟩ e3 e4 s2 hv
    obtain ⟨hk', rfl⟩ : k < many ∧ Dd.i (k : Int) = d := by
      rw [List.getElem?_map] at hd
      by_cases hk' : k < many
      · rw [List.getElem?_range hk'] at hd
        exact ⟨hk', Option.some.inj hd⟩
      · rw [List.getElem?_eq_none (by rw [List.length_range]; omega)] at hd
        cases hd
    obtain rfl : v = V.int (k : Int) := hv
    obtain ⟨i1, i2, i3, i4⟩ := turnM_ok (many := many) (row := row) k (by omega)
    have hnx : turnM many row (k + 1) = ((turnM many row k).1.take (row.getD k 0 % ((turnM many row k).1.length : Int)).toNat ++ (turnM many row k).1.drop ((row.getD k 0 % ((turnM many row k).1.length : Int)).toNat + 1), (turnM many row k).2 ++ [(turnM many row k).1.getD (row.getD k 0 % ((turnM many row k).1.length : Int)).toNat 0]) := rfl
    generalize turnM many row k = st at *
    obtain ⟨r, m⟩ := st
    replace i1 : r.length = many - k := i1
    replace i2 : m.length = k := i2
    replace j2 : Is K G' (.n (vis r)) v2 := j2
    replace hO : A' o = some (.lst (vis m)) := hO
    obtain ⟨q1, q2⟩ := mod_nat (a := row.getD k 0) (n := r.length) (by omega)
    have go2 : G2 o = none := s2.f o (by rw [hO]; simp) go
    have us2 := s2.a o _ hO
    have j22 := j2.mono s2.g
    have E2 := eG.trans s2.g
    refine a_setv (K := K) (x := .int (((row.getD k 0 % (r.length : Int)).toNat : Nat) : Int)) (Er.to (er_op (er_cb (era_cons (er_num (n := k) (er_var rfl (hs.mono (E2.trans s2.v))) (er_v rfl) (by omega)) era_nil) rc_int) (er_cb (era_cons (er_var rfl (j22.mono s2.v)) era_nil) rc_lenIN) (ro_mod (by omega : (0 : Int) < (r.length : Int)))) (congrArg Dd.i q1.symm)) fun H3 e3' => ?_
    refine b_app (K := K) (x := .int (r.getD (row.getD k 0 % (r.length : Int)).toNat 0)) (e3' o _ us2) (er_v rfl) (er_numN (er_var rfl (j22.mono (s2.v.trans e3'))) (er_v rfl) q2) (by rw [vis, List.length_map]; omega) fun H4 e4' => ?_
    have V4 : Ex G2 (upd H4 o (.lst (vis m ++ [.int (r.getD (row.getD k 0 % (r.length : Int)).toNat 0)]))) := Ex.mut (s2.v.trans (e3'.trans e4')) go2
    have E4 : Ex H (upd H4 o (.lst (vis m ++ [.int (r.getD (row.getD k 0 % (r.length : Int)).toNat 0)]))) := Ex.mut (((e.trans s2.a).trans e3').trans e4') ho
    refine s_set1 (K := K) (G := G2) (d := .n (vis (r.take (row.getD k 0 % (r.length : Int)).toNat ++ r.drop ((row.getD k 0 % (r.length : Int)).toNat + 1)))) (Ef.to (ef_op (ef_slTo (n := (row.getD k 0 % (r.length : Int)).toNat) (Ef.as (ef_var rfl j22) fun _ _ z => z.n2l) (er_v rfl)) (ef_slFrom (n := (row.getD k 0 % (r.length : Int)).toNat + 1) (Ef.as (ef_var rfl j22) fun _ _ z => z.n2l) (er_op (er_v rfl) er_c ro_I0)) (rof_cat (by rw [List.length_take, List.length_drop, vis, List.length_map]; omega))) (by rw [vis, vis, List.map_append, List.map_take, List.map_drop])) V4 fun v6 G6 A6 s6 i6 => ?_
    refine ⟨G6, ⟨v6, some (.int (k : Int)), some (.int (((row.getD k 0 % (r.length : Int)).toNat : Nat) : Int)), rfl, E4.trans s6.a, E2.trans s6.g, ?_, s6.f o (by rw [upd_same]; simp) go2, ?_⟩, (e3.trans s2.g).trans s6.g, s6.v⟩
    · rw [hnx]
      exact i6
    · rw [hnx, s6.a o _ upd_same]
      show some (HO.lst _) = some (HO.lst (vis (m ++ _)))
      rw [vis, vis, List.map_append]
      rfl
  · rintro σ' G' A' eg ev ⟨v2, y4, y5, rfl, e, eG, j2, go, hO⟩
    rw [List.length_map, List.length_range] at hO
    exact a_rete (K := K) (er_var (K := K) (d := .n (vis (turnM many row many).2)) rfl ⟨o, rfl, hO⟩) rfl e hk
end
end Mi

set_option maxHeartbeats 4000000
namespace Mi
open PySem PySem.Spec PyProof.Rows L2 Evl
local macro_rules | `(tactic| walk_at "side") => `(tactic| (first | assumption | omega | exact rfl | decide | (simp only [List.length_cons, List.length_nil, List.length_map, List.length_append, List.length_replicate] <;> omega)))
local macro_rules | `(tactic| walk_at "ro") => `(tactic| (first
  | with_reducible exact ro_I0
  | with_reducible exact ro_1018
  | with_reducible exact ro_neC
  | with_reducible exact ro_eqC
  | with_reducible exact ro_neI
  | with_reducible exact ro_eqI
  | with_reducible exact ro_neB
  | with_reducible exact ro_eqB
  | ((with_reducible apply ro_mod); (walk_at "side"))
  | ((with_reducible apply ro_div) <;> (walk_at "side"))
  | ((with_reducible apply ro_divW) <;> (walk_at "side"))
  | with_reducible exact ro_1012
  | with_reducible exact ro_1015
  | ((with_reducible apply ro_mulL) <;> (walk_at "side"))
  | ((with_reducible apply ro_mulR) <;> (walk_at "side"))
  | ((with_reducible apply ro_addC); (walk_at "side"))
  | ((with_reducible apply ro_ixC) <;> (walk_at "side"))
  | ((with_reducible apply ro_ixI) <;> (walk_at "side"))
  | ((with_reducible apply ro_ixIN) <;> (walk_at "side"))
  | ((with_reducible apply ro_ixT2) <;> (walk_at "side"))
  | ((with_reducible apply ro_ixG) <;> (walk_at "side"))
  | ((with_reducible apply ro_eq); exact rfl)
  | ((with_reducible apply ro_ne); exact rfl)
  | with_reducible exact ro_isN
  | with_reducible exact ro_notN
  | with_reducible exact ro_eqL
  | with_reducible exact ro_neL
  | with_reducible exact ro_eqU
  | ((with_reducible apply ro_cat); (walk_at "side"))
  | with_reducible exact ro_inLi
  | with_reducible exact ro_inNi
  | with_reducible exact ro_inUi
  | ((with_reducible apply ro_inL) <;> (walk_at "side"))
  | ((with_reducible apply ro_inN) <;> (walk_at "side"))
  | ((with_reducible apply ro_inU) <;> (walk_at "side"))))
local macro_rules | `(tactic| walk_at "rc") => `(tactic| (first
  | with_reducible exact rc_int
  | with_reducible exact rc_intB
  | with_reducible exact rc_max2
  | ((with_reducible apply rc_lenC); (walk_at "side"))
  | with_reducible exact rc_lenI
  | with_reducible exact rc_lenT
  | with_reducible exact rc_lenIN
  | with_reducible exact rc_lenTN
  | with_reducible exact rc_lenL
  | with_reducible exact rc_lenN
  | with_reducible exact rc_lenU
  | with_reducible exact rc_listL
  | with_reducible exact rc_listU
  | with_reducible exact rc_tupL
  | with_reducible exact rc_tupN
  | ((with_reducible apply rc_isi_int); decide +kernel)
  | ((with_reducible apply rc_isi_str); decide +kernel)
  | ((with_reducible apply rc_isi_bl); decide +kernel)
  | ((with_reducible apply rc_isi_non); decide +kernel)
  | ((with_reducible apply rc_isi_u); decide +kernel)
  | ((with_reducible apply rc_isi_l); decide +kernel)))
local macro_rules | `(tactic| walk_at "er") => `(tactic| (first
  | ((with_reducible apply er_var); (exact rfl); assumption)
  | ((with_reducible apply er_v); exact rfl)
  | with_reducible exact er_c
  | ((with_reducible apply er_pick); (walk_at "er"); (walk_at "er"); (walk_at "er"))
  | ((with_reducible apply er_op); (walk_at "er"); (walk_at "er"); (walk_at "ro"))
  | ((with_reducible apply er_cb); (walk_at "era"); (walk_at "rc"))
  | ((with_reducible apply er_lst'); (walk_at "era"); (exact rfl); (walk_at "side"))
  | ((with_reducible apply er_tup'); (walk_at "era"); (exact rfl); (walk_at "side"))
  | ((with_reducible apply er_notV); (walk_at "er"))
  | ((with_reducible apply er_andV); (walk_at "er"); (intro _; (walk_at "er")))
  | ((with_reducible apply er_orV); (walk_at "er"); (intro _; (walk_at "er")))
  | ((with_reducible apply er_ite); (walk_at "et"); (intro _; (walk_at "er")); (intro _; (walk_at "er")))))
local macro_rules | `(tactic| walk_at "era") => `(tactic| (first
  | with_reducible exact era_nil
  | ((with_reducible apply era_cons); (walk_at "er"); (walk_at "era"))))
local macro_rules | `(tactic| walk_at "et") => `(tactic| (first
  | ((with_reducible apply et_an); (walk_at "et"); (intro _; (walk_at "et")))
  | ((with_reducible apply et_orr); (walk_at "et"); (intro _; (walk_at "et")))
  | ((with_reducible apply et_nt); (walk_at "et"))
  | ((with_reducible apply et1); (walk_at "er"))
  | ((with_reducible apply et2); (walk_at "er"))))

section
variable {P : Program} {w : World} {K : PySem.W.Frag} {mg : Str → Option Value} {base : Heap}
/-! ### one sign changed -/
abbrev s__law_spoilt : Stmt := topS 52
theorem sc__law_spoilt : FnScope ["layer", "marks", "cell", "turn", "found", "mark"] ["layer", "marks", "cell", "turn"] (defScope s__law_spoilt) := ⟨rfl, rfl, rfl, by decide +kernel, rfl, by decide +kernel, by decide +kernel⟩

def foundM (marks : List Nat) (c : Nat) : List Nat := marks.filter fun m => !decide (m = c)
def spM (layer marks : List Nat) (cell : Nat) (turn : Int) : List Nat := layer.take cell ++ [(foundM marks (layer.getD cell 0)).getD (turn % ((foundM marks (layer.getD cell 0)).length : Int)).toNat 0] ++ layer.drop (cell + 1)
theorem spM_len {layer marks : List Nat} {cell : Nat} {turn : Int} (h : cell < layer.length) : (spM layer marks cell turn).length = layer.length := by
  unfold spM
  rw [List.length_append, List.length_append, List.length_take, List.length_drop]
  simp
  omega
abbrev sp__law_spoilt (K : PySem.W.Frag) : Sp := spR K (fun a : List Nat × List Nat × Nat × Int => a.1.length ≤ 1000 ∧ (a.2.1.length = 3 ∧ a.2.1.Nodup) ∧ a.2.2.1 < a.1.length) (fun a => [.s (S a.1), .s (S a.2.1), .i (a.2.2.1 : Int), .i a.2.2.2]) fun a => .s (S (spM a.1 a.2.1 a.2.2.1 a.2.2.2))
theorem has__law_spoilt (T : Txt K mg) (h : At K mg "_law_spoilt" s__law_spoilt ["layer", "marks", "cell", "turn"]) : Has P w K mg base 1 "_law_spoilt" ["layer", "marks", "cell", "turn"] (sp__law_spoilt K) := by
  refine h.hasR sc__law_spoilt (fun _ => rfl) fun f cdv A outer s H a vs Q E hr hp hv hk => ?_
  obtain ⟨layer, marks, cell, turn⟩ := a
  obtain ⟨h1, ⟨h2, h3⟩, h4⟩ := hp
  replace h1 : layer.length ≤ 1000 := h1
  replace h2 : marks.length = 3 := h2
  replace h3 : marks.Nodup := h3
  replace h4 : cell < layer.length := h4
  rcases hv with _ | ⟨rfl, _ | ⟨rfl, _ | ⟨rfl, _ | ⟨rfl, _ | _⟩⟩⟩⟩
  have sc := sc__law_spoilt
  have hfl : 0 < (foundM marks (layer.getD cell 0)).length := by
    obtain ⟨a, b, c, rfl⟩ : ∃ a b c, marks = [a, b, c] := by
      match marks, h2 with
      | [a, b, c], _ => exact ⟨a, b, c, rfl⟩
    generalize layer.getD cell 0 = z
    have hab : a ≠ b := fun e => by rw [e] at h3; simp at h3
    by_cases ha : a = z
    · refine List.length_pos_of_mem (a := b) (List.mem_filter.mpr ⟨by simp, ?_⟩)
      have : ¬ b = z := fun e => hab (ha.trans e.symm)
      simpa using this
    · exact List.length_pos_of_mem (a := a) (List.mem_filter.mpr ⟨by simp, by simpa using ha⟩)
  refine ⟨_, (pss_cons (ps_setLc (i := 4) (own := [("mark", 5)]) (g := gName 5) (by rfl) sc.nd rfl rfl (sw_true rfl rfl rfl (by decide +kernel)) (pi_str (pv 1)) (blkOk_by (N := ["layer", "marks", "cell", "turn", "found", "mark"]) (sc := defScope s__law_spoilt) (own := [("mark", 5)]) (by decide +kernel)) (fun _ _ _ _ _ => (pg_name (i := 5) sc.nd rfl (Or.inl rfl))) (fun _ _ _ _ _ => (pts_one (pt_cmpR op_ne (pv 5) (pe_ix ix_str (pv 0) (pv 2) (fun _ _ => rfl)) (nomark _)))) (fun _ _ _ _ _ => (pv 5)))
    (pss_one (ps_ret (pe_op op_addS (pe_op op_addS (pe_slice sl_str (pv 0) po_none (po_some (pv 2))) (pe_ix (ix_list_k (K := K)) (pv 4) (pe_op op_mod (pe_callTy cr_int (by rfl) T.b_int (by decide +kernel) (pa_cons (pv 3) pa_nil)) (pe_callB (cr_len_k (K := K)) (by rfl) T.b_len (by decide +kernel) (pa_cons (pv 4) pa_nil))) (fun _ _ => rfl))) (pe_slice sl_str (pv 0) (po_some (pe_op op_add (pv 2) pe_int)) po_none))))), ?_⟩
  refine a_asg (K := K) (d := .N ((foundM marks (layer.getD cell 0)).map fun c => Dd.s (S [c]))) (Ef.er (ef_lc (K := K) (G := H) (its := marks) (inj := fun c => Dd.s (S [c])) (vs := [5]) (fun c => !decide (c = layer.getD cell 0)) (fun c => Dd.s (S [c])) (if_text (er_v rfl)) (by omega) (fun i c v G' A' g1 g2 hi hv => ?_))) fun v4 H1 e1 i4 => ?_
  · obtain rfl : v = V.str (S [c]) := hv
    exact ⟨_, fun Q q => q, rfl, et1 (Er.to (er_op (d1 := .s (S [c])) (d2 := .s (S [layer.getD cell 0])) (er_v rfl) (er_sign (l := layer) (n := cell) (er_v rfl) (er_v rfl) h4 (by omega)) ro_neC) (by simp)), fun _ => ef_flat (er_v rfl)⟩
  unfold spM at hk
  generalize foundM marks (layer.getD cell 0) = fo at *
  obtain ⟨q1, q2⟩ := mod_nat (a := turn) (n := fo.length) hfl
  have hg : (fo.map fun c => Dd.s (S [c]))[(turn % (fo.length : Int)).toNat]? = some (Dd.s (S [fo.getD (turn % (fo.length : Int)).toNat 0])) := by
    rw [List.getElem?_map, List.getD_eq_getElem?_getD, List.getElem?_eq_getElem q2]
    rfl
  exact a_rete (K := K) (er_op (K := K) (d1 := .s (S (layer.take cell ++ [fo.getD (turn % (fo.length : Int)).toNat 0]))) (d2 := .s (S (layer.drop (cell + 1)))) (er_op (K := K) (d1 := .s (S (layer.take cell))) (d2 := .s (S [fo.getD (turn % (fo.length : Int)).toNat 0])) (er_slTo (er_v rfl) (by omega) (er_v rfl)) (er_op (d2 := .i (((turn % (fo.length : Int)).toNat : Nat) : Int)) (er_var rfl i4) (Er.to (er_op (er_cb (era_cons (er_v rfl) era_nil) rc_int) (Er.to (er_cb (era_cons (er_var rfl i4) era_nil) rc_lenNd) (by rw [List.length_map])) (ro_mod (by omega : (0 : Int) < (fo.length : Int)))) (congrArg Dd.i q1.symm)) (ro_ixNd hg)) (ro_addC (by simp; omega))) (er_slFrom (er_v rfl) (by omega) (er_op (er_v rfl) er_c ro_I0)) (ro_addC (by simp; omega))) rfl e1 hk
/-! ### the names of the stamps -/
abbrev s__law_words : Stmt := topS 43
theorem sc__law_words : FnScope ["row", "menu", "long", "at", "signs", "longs", "k"] ["row"] (defScope s__law_words) := ⟨rfl, rfl, rfl, by decide +kernel, rfl, by decide +kernel, by decide +kernel⟩

def menuW : List (List Nat) := [[120], [98, 101, 116, 97], [121, 50], [109, 115], [113], [99, 111, 112, 121, 49, 48], [122], [97, 108, 112, 104, 97, 49], [119], [98, 101, 116, 97, 50]]
def kbW : List Nat := [107, 57, 97, 98, 98, 97, 57, 107]
def sgA : List Nat := [113, 98, 120, 109, 122, 107, 119, 100, 117, 97]
def sgB : List Nat := [113, 55, 120, 48, 109, 51, 122, 107, 57, 49]
def bbW : List Nat := [98, 98, 98, 98, 98, 98, 98, 98]
def longsW : List Nat := [3, 1, 6, 2, 8, 4, 7, 5]
def W1 (r1 : Nat) : List (List Nat) := (List.range 10).map fun k => menuW.getD ((r1 + k) % 10) []
def wAt (r2 r3 : Nat) : Nat := r3 % (1 + r2)
def wSg (r2 r3 : Nat) : List Nat := if 0 < wAt r2 r3 then sgB else sgA
def W2 (r1 r2 r3 : Nat) : List (List Nat) := (List.range 10).map fun k => kbW.take (wAt r2 r3) ++ [(wSg r2 r3).getD ((r1 + k) % 10) 0] ++ (kbW.drop (wAt r2 r3 + 1)).take (1 + r2 - (wAt r2 r3 + 1))
def W3 (r1 : Nat) : List (List Nat) := ((List.range 8).map fun k => bbW.take (longsW.getD ((r1 + k) % 8) 0)) ++ [[98, 97], [99, 48]]
def wordsW (r0 r1 r2 r3 : Nat) : List (List Nat) := if r0 < 3 then W1 r1 else if r0 < 6 then W2 r1 r2 r3 else W3 r1
def goodW (ws : List (List Nat)) : Bool := decide (ws.length = 10) && (ws.all (fun w => nameOk w && decide (w.length ≤ 8)) && decide ws.Nodup)
theorem good1 : ∀ r1, r1 < 10 → goodW (W1 r1) = true := by decide +kernel
theorem good2 : ∀ r1, r1 < 10 → ∀ r2, r2 < 8 → ∀ r3, r3 < 8 → goodW (W2 r1 r2 r3) = true := by decide +kernel
theorem good3 : ∀ r1, r1 < 10 → goodW (W3 r1) = true := by decide +kernel
theorem words_good {r0 r1 r2 r3 : Nat} (h1 : r1 < 10) (h2 : r2 < 8) (h3 : r3 < 8) : goodW (wordsW r0 r1 r2 r3) = true := by
  unfold wordsW
  split
  · exact good1 r1 h1
  · split
    · exact good2 r1 h1 r2 h2 r3 h3
    · exact good3 r1 h1
abbrev rowW (a : Nat × Nat × Nat × Nat) : List Int := [(a.1 : Int), (a.2.1 : Int), (a.2.2.1 : Int), (a.2.2.2 : Int)]
abbrev sp__law_words (K : PySem.W.Frag) : Sp := spR K (fun a : Nat × Nat × Nat × Nat => a.2.2.1 < 8) (fun a => [.l (vis (rowW a))]) fun a => .n (vsl (wordsW a.1 a.2.1 a.2.2.1 a.2.2.2))
theorem has__law_words (T : Txt K mg) (h : At K mg "_law_words" s__law_words ["row"]) : Has P w K mg base 1 "_law_words" ["row"] (sp__law_words K) := by
  refine h.hasR sc__law_words (fun _ => rfl) fun f cdv A outer s H a vs Q E hr hp hv hk => ?_
  obtain ⟨r0, r1, r2, r3⟩ := a
  replace hp : r2 < 8 := hp
  rcases hv with _ | ⟨hs, _ | _⟩
  rename_i x
  replace hs : Is K H (.l (vis (rowW (r0, r1, r2, r3)))) x := hs
  have sc := sc__law_words
  have num : ∀ {te tk : TE} {σ : L2.St} {H : Hp} {j : Nat}, Er K te σ H (.l (vis (rowW (r0, r1, r2, r3)))) → Er K tk σ H (.i (j : Int)) → j < 4 → Er K (tOp (rIxL K) te tk) σ H (.i ((rowW (r0, r1, r2, r3)).getD j 0)) := fun {te tk σ H j} q1 q2 hj => er_num q1 q2 hj
  refine ⟨_, (pss_cons (ps_if (pt_cmpR op_lt (pe_ix (ix_list_k (K := K)) (pv 0) pe_int (fun _ _ => rfl)) pe_int (nomark _)) (pss_cons (ps_set (i := 1) sc.nd rfl (Or.inr rfl) (pe_lst (pa_cons (pe_strS [120] (by rfl)) (pa_cons (pe_strS [98, 101, 116, 97] (by rfl)) (pa_cons (pe_strS [121, 50] (by rfl)) (pa_cons (pe_strS [109, 115] (by rfl)) (pa_cons (pe_strS [113] (by rfl)) (pa_cons (pe_strS [99, 111, 112, 121, 49, 48] (by rfl)) (pa_cons (pe_strS [122] (by rfl)) (pa_cons (pe_strS [97, 108, 112, 104, 97, 49] (by rfl)) (pa_cons (pe_strS [119] (by rfl)) (pa_cons (pe_strS [98, 101, 116, 97, 50] (by rfl)) pa_nil))))))))))))
    (pss_one (ps_ret (pe_lc (own := [("k", 6)]) (g := gName 6) (by rfl) sc.nd (pi_range1 (by rfl) T.b_range (pa_cons pe_int pa_nil)) (blkOk_by (N := ["row", "menu", "long", "at", "signs", "longs", "k"]) (sc := defScope s__law_words) (own := [("k", 6)]) (by decide +kernel)) (fun _ _ _ _ _ => (pg_name (i := 6) sc.nd rfl (Or.inl rfl))) (fun _ _ _ _ _ => pts_nil) (fun _ _ _ _ _ => (pe_ix (ix_list_k (K := K)) (pv 1) (pe_op op_mod (pe_callTy cr_int (by rfl) T.b_int (by decide +kernel) (pa_cons (pe_op op_add (pe_ix (ix_list_k (K := K)) (pv 0) pe_int (fun _ _ => rfl)) (pv 6)) pa_nil)) pe_int) (fun _ _ => rfl))))))) pss_nil)
    (pss_cons (ps_if (pt_cmpR op_lt (pe_ix (ix_list_k (K := K)) (pv 0) pe_int (fun _ _ => rfl)) pe_int (nomark _)) (pss_cons (ps_set (i := 2) sc.nd rfl (Or.inr rfl) (pe_op op_add pe_int (pe_callTy cr_int (by rfl) T.b_int (by decide +kernel) (pa_cons (pe_ix (ix_list_k (K := K)) (pv 0) pe_int (fun _ _ => rfl)) pa_nil))))
    (pss_cons (ps_set (i := 3) sc.nd rfl (Or.inr rfl) (pe_op op_mod (pe_callTy cr_int (by rfl) T.b_int (by decide +kernel) (pa_cons (pe_ix (ix_list_k (K := K)) (pv 0) pe_int (fun _ _ => rfl)) pa_nil)) (pv 2)))
    (pss_cons (ps_set (i := 4) sc.nd rfl (Or.inr rfl) (pe_ix (ix_list_k (K := K)) (pe_lst (pa_cons (pe_strS [113, 98, 120, 109, 122, 107, 119, 100, 117, 97] (by rfl)) (pa_cons (pe_strS [113, 55, 120, 48, 109, 51, 122, 107, 57, 49] (by rfl)) pa_nil))) (pe_callTy cr_int (by rfl) T.b_int (by decide +kernel) (pa_cons (pe_cmpR op_gt (pv 3) pe_int (nomark _)) pa_nil)) (fun _ _ => rfl)))
    (pss_one (ps_ret (pe_lc (own := [("k", 6)]) (g := gName 6) (by rfl) sc.nd (pi_range1 (by rfl) T.b_range (pa_cons pe_int pa_nil)) (blkOk_by (N := ["row", "menu", "long", "at", "signs", "longs", "k"]) (sc := defScope s__law_words) (own := [("k", 6)]) (by decide +kernel)) (fun _ _ _ _ _ => (pg_name (i := 6) sc.nd rfl (Or.inl rfl))) (fun _ _ _ _ _ => pts_nil) (fun _ _ _ _ _ => (pe_op op_addS (pe_op op_addS (pe_slice sl_str (pe_strS [107, 57, 97, 98, 98, 97, 57, 107] (by rfl)) po_none (po_some (pv 3))) (pe_ix ix_str (pv 4) (pe_op op_mod (pe_callTy cr_int (by rfl) T.b_int (by decide +kernel) (pa_cons (pe_op op_add (pe_ix (ix_list_k (K := K)) (pv 0) pe_int (fun _ _ => rfl)) (pv 6)) pa_nil)) pe_int) (fun _ _ => rfl))) (pe_slice sl_str (pe_strS [107, 57, 97, 98, 98, 97, 57, 107] (by rfl)) (po_some (pe_op op_add (pv 3) pe_int)) (po_some (pv 2))))))))))) pss_nil)
    (pss_cons (ps_set (i := 5) sc.nd rfl (Or.inr rfl) (pe_lst (pa_cons pe_int (pa_cons pe_int (pa_cons pe_int (pa_cons pe_int (pa_cons pe_int (pa_cons pe_int (pa_cons pe_int (pa_cons pe_int pa_nil))))))))))
    (pss_one (ps_ret (pe_op op_cat (pe_lc (own := [("k", 6)]) (g := gName 6) (by rfl) sc.nd (pi_range1 (by rfl) T.b_range (pa_cons pe_int pa_nil)) (blkOk_by (N := ["row", "menu", "long", "at", "signs", "longs", "k"]) (sc := defScope s__law_words) (own := [("k", 6)]) (by decide +kernel)) (fun _ _ _ _ _ => (pg_name (i := 6) sc.nd rfl (Or.inl rfl))) (fun _ _ _ _ _ => pts_nil) (fun _ _ _ _ _ => (pe_slice sl_str (pe_strS [98, 98, 98, 98, 98, 98, 98, 98] (by rfl)) po_none (po_some (pe_ix (ix_list_k (K := K)) (pv 5) (pe_op op_mod (pe_callTy cr_int (by rfl) T.b_int (by decide +kernel) (pa_cons (pe_op op_add (pe_ix (ix_list_k (K := K)) (pv 0) pe_int (fun _ _ => rfl)) (pv 6)) pa_nil)) pe_int) (fun _ _ => rfl)))))) (pe_lst (pa_cons (pe_strS [98, 97] (by rfl)) (pa_cons (pe_strS [99, 48] (by rfl)) pa_nil))))))))), ?_⟩
  refine a_when (K := K) (b := decide (r0 < 3)) (et1 (Er.to (er_op (num (j := 0) (er_var rfl hs) er_c (by decide)) er_c ro_I0) (congrArg Dd.b (decide_eq_decide.mpr (by show ((r0 : Nat) : Int) < 3 ↔ _; omega))))) (fun hb H1 e1 => ?_) fun hb H1 e1 => ?_
  · have hb' : r0 < 3 := of_decide_eq_true hb
    refine a_asg (K := K) (d := .n (vsl menuW)) (er_lst (vs := vsl menuW) (by repeat (first | exact era_nil | refine era_cons er_c ?_)) (by decide)) fun v H2 e2 hv2 => ?_
    have hs2 := hs.mono (e1.trans e2)
    refine a_rete (K := K) (er_lcR' (K := K) (n := 10) (vs := [6]) (fun k => .str (S (menuW.getD ((r1 + k) % 10) []))) (era_cons er_c era_nil) (by decide) (fun _ => rfl) (fun i H3 e3 hi => ?_)) ?_ (e1.trans e2) hk
    · have q0 : 0 ≤ ((r1 : Int) + (i : Int)) % 10 := Int.emod_nonneg _ (by decide)
      have q1 : ((r1 : Int) + (i : Int)) % 10 < 10 := Int.emod_lt_of_pos _ (by decide)
      exact Er.to (er_op (d2 := .i (((r1 : Int) + (i : Int)) % 10)) (er_var rfl (hv2.mono e3)) (er_op (er_cb (era_cons (er_op (num (j := 1) (er_var rfl (hs2.mono e3)) er_c (by decide)) (er_v rfl) ro_I0) era_nil) rc_int) er_c (ro_mod (by decide))) (ro_ixSN q0 (by show _ < ((10 : Nat) : Int); exact q1))) (by rw [show (((r1 : Int) + (i : Int)) % 10).toNat = (r1 + i) % 10 by omega])
    · show Dd.n _ = Dd.n (vsl (wordsW r0 r1 r2 r3))
      unfold wordsW
      rw [if_pos hb', W1, vsl, vss, List.map_map, List.map_map]
      rfl
  have hb' : ¬ r0 < 3 := of_decide_eq_false hb
  refine a_when (K := K) (b := decide (r0 < 6)) (et1 (Er.to (er_op (num (j := 0) (er_var rfl (hs.mono e1)) er_c (by decide)) er_c ro_I0) (congrArg Dd.b (decide_eq_decide.mpr (by show ((r0 : Nat) : Int) < 6 ↔ _; omega))))) (fun hc H2 e2 => ?_) fun hc H2 e2 => ?_
  · have hc' : r0 < 6 := of_decide_eq_true hc
    have hs2 := hs.mono (e1.trans e2)
    have hat : wAt r2 r3 < 1 + r2 := Nat.mod_lt _ (by omega)
    refine a_setv (K := K) (x := .int ((1 + r2 : Nat) : Int)) (Er.to (er_op er_c (er_cb (era_cons (num (j := 2) (er_var rfl hs2) er_c (by decide)) era_nil) rc_int) ro_I0) (congrArg Dd.i (by show (1 : Int) + (r2 : Int) = _; omega))) fun H3 e3 => ?_
    refine a_setv (K := K) (x := .int (wAt r2 r3 : Int)) (Er.to (er_op (er_cb (era_cons (num (j := 3) (er_var rfl (hs2.mono e3)) er_c (by decide)) era_nil) rc_int) (er_v rfl) (ro_mod (by omega : (0 : Int) < ((1 + r2 : Nat) : Int)))) (congrArg Dd.i (show ((r3 : Int) % ((1 + r2 : Nat) : Int)) = ((r3 % (1 + r2) : Nat) : Int) from rfl))) fun H4 e4 => ?_
    have lsg : (wSg r2 r3).length = 10 := by
      unfold wSg
      split <;> rfl
    have lkb : kbW.length = 8 := rfl
    refine a_setv (K := K) (x := .str (S (wSg r2 r3))) (Er.to (er_pick (x := .str (S sgA)) (y := .str (S sgB)) er_c er_c (er_op (er_v rfl) er_c ro_I0)) ?_) fun H5 e5 => ?_
    · unfold wSg
      by_cases z : 0 < wAt r2 r3
      · rw [if_pos z, if_pos (decide_eq_true (by omega))]
      · rw [if_neg z, decide_eq_false (by omega), if_neg Bool.false_ne_true]
    have hs5 := hs2.mono (e3.trans (e4.trans e5))
    refine a_rete (K := K) (er_lcR' (K := K) (n := 10) (vs := [6]) (fun k => .str (S (kbW.take (wAt r2 r3) ++ [(wSg r2 r3).getD ((r1 + k) % 10) 0] ++ (kbW.drop (wAt r2 r3 + 1)).take (1 + r2 - (wAt r2 r3 + 1))))) (era_cons er_c era_nil) (by decide) (fun _ => rfl) (fun i H6 e6 hi => ?_)) ?_ (e1.trans (e2.trans (e3.trans (e4.trans e5)))) hk
    · have q0 : 0 ≤ ((r1 : Int) + (i : Int)) % 10 := Int.emod_nonneg _ (by decide)
      have q1 : ((r1 : Int) + (i : Int)) % 10 < 10 := Int.emod_lt_of_pos _ (by decide)
      exact er_op (d1 := .s (S (kbW.take (wAt r2 r3) ++ [(wSg r2 r3).getD ((r1 + i) % 10) 0]))) (d2 := .s (S ((kbW.drop (wAt r2 r3 + 1)).take (1 + r2 - (wAt r2 r3 + 1))))) (er_op (d1 := .s (S (kbW.take (wAt r2 r3)))) (d2 := .s (S [(wSg r2 r3).getD ((r1 + i) % 10) 0])) (er_slTo (l := kbW) er_c (by decide) (er_v rfl)) (Er.to (er_op (d1 := .s (S (wSg r2 r3))) (d2 := .i (((r1 : Int) + (i : Int)) % 10)) (er_v rfl) (er_op (er_cb (era_cons (er_op (num (j := 1) (er_var rfl (hs5.mono e6)) er_c (by decide)) (er_v rfl) ro_I0) era_nil) rc_int) er_c (ro_mod (by decide))) (ro_ixC q0 (by rw [lsg]; exact q1) (by rw [lsg]; decide))) (by rw [show (((r1 : Int) + (i : Int)) % 10).toNat = (r1 + i) % 10 by omega])) (ro_addC (by simp; omega))) (er_slMidS (l := kbW) (n := wAt r2 r3 + 1) (m := 1 + r2) er_c (by decide) (er_op (er_v rfl) er_c ro_I0) (er_v rfl) (by omega)) (ro_addC (by simp; omega))
    · show Dd.n _ = Dd.n (vsl (wordsW r0 r1 r2 r3))
      unfold wordsW
      rw [if_neg hb', if_pos hc', W2, vsl, vss, List.map_map, List.map_map]
      rfl
  · have hc' : ¬ r0 < 6 := of_decide_eq_false hc
    have hs2 := hs.mono (e1.trans e2)
    refine a_asg (K := K) (d := .n (vis [3, 1, 6, 2, 8, 4, 7, 5])) (er_lst (vs := vis [3, 1, 6, 2, 8, 4, 7, 5]) (by repeat (first | exact era_nil | refine era_cons er_c ?_)) (by decide)) fun v H3 e3 hv3 => ?_
    have m8 : ∀ j : Nat, j < 8 → ([3, 1, 6, 2, 8, 4, 7, 5] : List Int).getD j 0 = ((longsW.getD j 0 : Nat) : Int) := by decide
    refine a_rete (K := K) (er_op (er_lcR' (K := K) (n := 8) (vs := [6]) (fun k => .str (S (bbW.take (longsW.getD ((r1 + k) % 8) 0)))) (era_cons er_c era_nil) (by decide) (fun _ => rfl) (fun i H6 e6 hi => ?_)) (er_lst (vs := vsl [[98, 97], [99, 48]]) (by repeat (first | exact era_nil | refine era_cons er_c ?_)) (by decide)) (ro_cat (by simp))) ?_ (e1.trans (e2.trans e3)) hk
    · have q0 : 0 ≤ ((r1 : Int) + (i : Int)) % 8 := Int.emod_nonneg _ (by decide)
      have q1 : ((r1 : Int) + (i : Int)) % 8 < 8 := Int.emod_lt_of_pos _ (by decide)
      exact er_slTo (l := bbW) er_c (by decide) (Er.to (er_op (d2 := .i (((r1 : Int) + (i : Int)) % 8)) (er_var rfl (hv3.mono e6)) (er_op (er_cb (era_cons (er_op (num (j := 1) (er_var rfl (hs2.mono (e3.trans e6))) er_c (by decide)) (er_v rfl) ro_I0) era_nil) rc_int) er_c (ro_mod (by decide))) (ro_ixIN q0 (by show _ < ((8 : Nat) : Int); exact q1))) (by rw [show (((r1 : Int) + (i : Int)) % 8).toNat = (r1 + i) % 8 by omega, m8 _ (Nat.mod_lt _ (by decide))]))
    · show Dd.n _ = Dd.n (vsl (wordsW r0 r1 r2 r3))
      unfold wordsW
      rw [if_neg hb', if_neg hc', W3]
      simp only [vsl, vss, List.map_append, List.map_map]
      rfl
end
end Mi

set_option maxHeartbeats 4000000
namespace Mi
open PySem PySem.Spec PyProof.Rows L2 Evl
local macro_rules | `(tactic| walk_at "side") => `(tactic| (first | assumption | omega | exact rfl | decide | (simp only [List.length_cons, List.length_nil, List.length_map, List.length_append, List.length_replicate] <;> omega)))
local macro_rules | `(tactic| walk_at "ro") => `(tactic| (first
  | with_reducible exact ro_I0
  | with_reducible exact ro_1018
  | with_reducible exact ro_neC
  | with_reducible exact ro_eqC
  | with_reducible exact ro_neI
  | with_reducible exact ro_eqI
  | with_reducible exact ro_neB
  | with_reducible exact ro_eqB
  | ((with_reducible apply ro_mod); (walk_at "side"))
  | ((with_reducible apply ro_div) <;> (walk_at "side"))
  | ((with_reducible apply ro_divW) <;> (walk_at "side"))
  | with_reducible exact ro_1012
  | with_reducible exact ro_1015
  | ((with_reducible apply ro_mulL) <;> (walk_at "side"))
  | ((with_reducible apply ro_mulR) <;> (walk_at "side"))
  | ((with_reducible apply ro_addC); (walk_at "side"))
  | ((with_reducible apply ro_ixC) <;> (walk_at "side"))
  | ((with_reducible apply ro_ixI) <;> (walk_at "side"))
  | ((with_reducible apply ro_ixIN) <;> (walk_at "side"))
  | ((with_reducible apply ro_ixT2) <;> (walk_at "side"))
  | ((with_reducible apply ro_ixG) <;> (walk_at "side"))
  | ((with_reducible apply ro_eq); exact rfl)
  | ((with_reducible apply ro_ne); exact rfl)
  | with_reducible exact ro_isN
  | with_reducible exact ro_notN
  | with_reducible exact ro_eqL
  | with_reducible exact ro_neL
  | with_reducible exact ro_eqU
  | ((with_reducible apply ro_cat); (walk_at "side"))
  | with_reducible exact ro_inLi
  | with_reducible exact ro_inNi
  | with_reducible exact ro_inUi
  | ((with_reducible apply ro_inL) <;> (walk_at "side"))
  | ((with_reducible apply ro_inN) <;> (walk_at "side"))
  | ((with_reducible apply ro_inU) <;> (walk_at "side"))))
local macro_rules | `(tactic| walk_at "rc") => `(tactic| (first
  | with_reducible exact rc_int
  | with_reducible exact rc_intB
  | with_reducible exact rc_max2
  | ((with_reducible apply rc_lenC); (walk_at "side"))
  | with_reducible exact rc_lenI
  | with_reducible exact rc_lenT
  | with_reducible exact rc_lenIN
  | with_reducible exact rc_lenTN
  | with_reducible exact rc_lenL
  | with_reducible exact rc_lenN
  | with_reducible exact rc_lenU
  | with_reducible exact rc_listL
  | with_reducible exact rc_listU
  | with_reducible exact rc_tupL
  | with_reducible exact rc_tupN
  | ((with_reducible apply rc_isi_int); decide +kernel)
  | ((with_reducible apply rc_isi_str); decide +kernel)
  | ((with_reducible apply rc_isi_bl); decide +kernel)
  | ((with_reducible apply rc_isi_non); decide +kernel)
  | ((with_reducible apply rc_isi_u); decide +kernel)
  | ((with_reducible apply rc_isi_l); decide +kernel)))
local macro_rules | `(tactic| walk_at "er") => `(tactic| (first
  | ((with_reducible apply er_var); (exact rfl); assumption)
  | ((with_reducible apply er_v); exact rfl)
  | with_reducible exact er_c
  | ((with_reducible apply er_pick); (walk_at "er"); (walk_at "er"); (walk_at "er"))
  | ((with_reducible apply er_op); (walk_at "er"); (walk_at "er"); (walk_at "ro"))
  | ((with_reducible apply er_cb); (walk_at "era"); (walk_at "rc"))
  | ((with_reducible apply er_lst'); (walk_at "era"); (exact rfl); (walk_at "side"))
  | ((with_reducible apply er_tup'); (walk_at "era"); (exact rfl); (walk_at "side"))
  | ((with_reducible apply er_notV); (walk_at "er"))
  | ((with_reducible apply er_andV); (walk_at "er"); (intro _; (walk_at "er")))
  | ((with_reducible apply er_orV); (walk_at "er"); (intro _; (walk_at "er")))
  | ((with_reducible apply er_ite); (walk_at "et"); (intro _; (walk_at "er")); (intro _; (walk_at "er")))))
local macro_rules | `(tactic| walk_at "era") => `(tactic| (first
  | with_reducible exact era_nil
  | ((with_reducible apply era_cons); (walk_at "er"); (walk_at "era"))))
local macro_rules | `(tactic| walk_at "et") => `(tactic| (first
  | ((with_reducible apply et_an); (walk_at "et"); (intro _; (walk_at "et")))
  | ((with_reducible apply et_orr); (walk_at "et"); (intro _; (walk_at "et")))
  | ((with_reducible apply et_nt); (walk_at "et"))
  | ((with_reducible apply et1); (walk_at "er"))
  | ((with_reducible apply et2); (walk_at "er"))))

section
variable {K : PySem.W.Frag} {σ : L2.St} {G A H : Hp} {te tl to ti : TE} {tr : TA} {wi : TI} {g : TG} {t : TT} {ds : List Dd} {D : Ends}
/-! ### lists that are new, and may be changed -/
def frD (K : PySem.W.Frag) (G : Hp) (ds : List Dd) : Dd := .P ⟨fun H y => ∃ p us, y = .ref p ∧ G p = none ∧ H p = some (.lst us) ∧ IsE K H ds us, by
  rintro H H' y e ⟨p, us, rfl, h1, h2, h3⟩
  exact ⟨p, us, rfl, h1, e p _ h2, IsE.mono e h3⟩⟩
theorem ef_new (h : Efa K tr σ G ds) (hl : ds.length ≤ 100000) : Ef K (tLst tr) σ G (frD K G ds) := fun G1 A e1 e2 Q q =>
  h G1 A e1 e2 _ fun ws G2 A2 s z => ⟨sz_of (by rw [← z.len]; exact hl), fun p hp => q _ _ _ (s.trans (.new s.v hp)) ⟨p, ws, rfl, ex_out ((e1.trans s.g).trans s.v) hp, upd_same, isE_all.mpr (z.mono (Ex.new (ex_out s.v hp)))⟩⟩
/-- a comprehension, its list is new -/
theorem ef_lcF {α : Type} {its : List α} {inj : α → Dd} {vs : List Nat} (f : α → Bool) (gd : α → Dd) (h : Itf K wi σ G (its.map inj)) (hz : its.length ≤ 50000)
    (hs : ∀ (i : Nat) x v G' A', Ex G G' → Ex G' A' → its[i]? = some x → Is K G' (inj x) v → ∃ σ2, (∀ Q : L2.St → Hp → Prop, Q σ2 A' → g v (wipe σ vs) A' Q) ∧ wipe σ2 vs = wipe σ vs ∧ Et K t σ2 A' (f x) ∧ (f x = true → Ef K te σ2 G' (gd x))) :
    Ef K (tLc wi g t te vs) σ G (frD K G ((its.filter f).map gd)) := fun G0 A0 e0 ea0 Q q =>
  h G0 A0 e0 ea0 _ fun J G1 A1 s1 hw => fun Dl hD => by
    have gD := ex_out s1.v hD
    have gD0 : G Dl = none := ex_out (e0.trans s1.g) gD
    refine ⟨fun i m A' => m = its.length - i ∧ i ≤ its.length ∧ ∃ G', Step G1 A1 G' A' ∧ G' Dl = none ∧ ∃ us, A' Dl = some (.lst us) ∧ IsE K G' (((its.take i).filter f).map gd) us, ⟨_, rfl, Nat.zero_le _, G1, .on s1.v (Ex.new hD), gD, [], upd_same, rfl⟩, ?_⟩
    rintro i m A' ⟨rfl, hi, G', st, hg, us, hu, hE⟩
    by_cases hlt : i < its.length
    · have hx : its[i]? = some its[i] := List.getElem?_eq_getElem hlt
      have hd' : (its.map inj)[i]? = some (inj its[i]) := by rw [List.getElem?_map, hx]; rfl
      obtain ⟨go, yl⟩ := (hw i G' A' st.g st.v).1 _ hd'
      refine .inr ⟨go, fun A3 => ∃ G3, Step G1 A1 G3 A3 ∧ G3 Dl = none ∧ ∃ us, A3 Dl = some (.lst us) ∧ IsE K G3 (((its.take (i + 1)).filter f).map gd) us, fun A3 p3 => ⟨its.length - (i + 1), by omega, rfl, hlt, p3⟩, fun v A'' y => ?_⟩
      obtain ⟨G2, s2, z⟩ := yl v A'' y
      have uN : A' Dl ≠ none := by rw [hu]; simp
      have g2 := s2.f Dl uN hg
      have u2 := s2.a Dl _ hu
      obtain ⟨σ2, hgt, hwp, htt, hte⟩ := hs i _ v G2 A'' ((e0.trans s1.g).trans (st.g.trans s2.g)) s2.v hx z
      have hl : us.length ≤ i := by
        rw [← isE_len hE, List.length_map]
        refine Nat.le_trans (List.length_filter_le _ _) ?_
        rw [List.length_take]
        exact Nat.min_le_left _ _
      refine hgt _ ⟨hwp, htt A'' (Ex.refl _) _ fun A3 e3 => ?_⟩
      have hn : (its.take (i + 1)).filter f = (its.take i).filter f ++ if f its[i] = true then [its[i]] else [] := by
        rw [List.take_add_one, hx]
        simp only [Option.toList, List.filter_append]
        congr 1
        by_cases hf : f its[i] = true
        · simp [hf]
        · simp [hf]
      have s3 := (st.trans s2).trans (Step.on s2.v e3)
      have u3 := e3 Dl _ u2
      by_cases hf : f its[i] = true
      · rw [if_pos hf]
        refine hte hf G2 A3 (Ex.refl G2) s3.v _ fun w G4 A4 s4 zw => ⟨us, s4.a Dl _ u3, sz_lt (by omega), ?_⟩
        have g4 := s4.f Dl (by rw [u3]; simp) g2
        refine ⟨G4, (s3.trans s4).grow hD g4, g4, us ++ [w], upd_same, ?_⟩
        rw [hn, if_pos hf, List.map_append]
        exact isE_app (IsE.mono (s2.g.trans s4.g) hE) ⟨w, [], rfl, zw, rfl⟩
      · rw [if_neg hf]
        refine ⟨G2, s3, g2, us, u3, ?_⟩
        rw [hn, if_neg hf, List.append_nil]
        exact IsE.mono s2.g hE
    · have e : i = its.length := by omega
      subst e
      refine .inl ⟨(hw _ G' A' st.g st.v).2 (by rw [List.length_map]), q _ (upd G' Dl (.lst us)) A' (s1.trans (st.seal hD hg hu)) ⟨Dl, us, rfl, gD0, upd_same, ?_⟩⟩
      rw [List.take_length] at hE
      exact IsE.mono (Ex.new hg) hE
theorem s_appS {tz : TS} {D : Ends} {l : Addr} {us : List V} (hl : A l = some (.lst us)) (hg : G l = none) (hA : Ex G A) (ha : Er K tl σ A (.v (.ref l))) (h : Ef K te σ G d) (hz : us.length < 100000) (k : ∀ w G' A', Step G A G' A' → Is K G' d w → G' l = none → A' l = some (.lst us) → tz D σ (upd A' l (.lst (us ++ [w])))) :
    tSeq (tDrop (tBM K "list" rAppend tl (tCons te tNil))) tz D σ A := s_app (D := { D with nx := tz D }) hl hg hA ha h hz k
/-- xs[i] = a flat value -/
theorem a_setix {l : Addr} {us : List V} {i : Nat} {x : V} (hv : Er K te σ H (.v x)) (ho : ∀ H1, Ex H H1 → Er K to σ H1 (.v (.ref l))) (hi : Er K ti σ H (.i (i : Int))) (hl : H l = some (.lst us)) (hj : i < us.length) (k : ∀ H1, Ex H H1 → D.nx σ (upd H1 l (.lst (us.set i x)))) : tAsg te (gSub to ti rSetL) D σ H :=
  hv H (Ex.refl H) _ fun v H1 e1 z1 => ho H1 e1 H1 (Ex.refl _) _ fun o H2 e2 z2 => hi H2 (e1.trans e2) _ fun iv H3 e3 z3 => by
    obtain rfl : v = x := z1
    obtain rfl : o = .ref l := z2
    obtain rfl : iv = .int (i : Int) := z3
    have E := (e1.trans e2).trans e3
    exact ⟨l, us, (i : Int), i, rfl, rfl, E l _ hl, ixN_nat hj, k H3 E⟩
theorem a_setixS {l : Addr} {us : List V} {i : Nat} {x : V} {tz : TS} (hv : Er K te σ H (.v x)) (ho : ∀ H1, Ex H H1 → Er K to σ H1 (.v (.ref l))) (hi : Er K ti σ H (.i (i : Int))) (hl : H l = some (.lst us)) (hj : i < us.length) (k : ∀ H1, Ex H H1 → tz D σ (upd H1 l (.lst (us.set i x)))) : tSeq (tAsg te (gSub to ti rSetL)) tz D σ H :=
  a_setix (D := { D with nx := tz D }) hv ho hi hl hj k
end
/-- the heap without its lists -/
def noL (H : Hp) : Hp := fun a => match H a with
  | some (.lst _) => none
  | o => o
theorem noL_ex {H : Hp} : Ex (noL H) H := fun a o h => by
  unfold noL at h
  split at h
  · cases h
  · exact h
theorem noL_keep {H : Hp} {a : Addr} {o : HO} (h : H a = some o) (hn : ∀ us, o ≠ .lst us) : noL H a = some o := by
  unfold noL
  rw [h]
  cases o <;> first | rfl | exact absurd rfl (hn _)
theorem noL_none {H : Hp} {a : Addr} {us : List V} (h : H a = some (.lst us)) : noL H a = none := by
  unfold noL
  rw [h]
section
variable {P : Program} {w : World} {K : PySem.W.Frag} {mg : Str → Option Value} {base : Heap}
theorem sqT_noL {H : Hp} {a : Addr} {xs : List V} (h : SqT K H a xs) : SqT K (noL H) a xs := by
  rcases h with (h | ⟨o, h⟩) | h
  · exact .inl (.inl (noL_keep h fun us e => by cases e))
  · exact .inl (.inr ⟨o, noL_keep h fun us e => by cases e⟩)
  · exact .inr h
theorem isE_noL {H : Hp} : ∀ {sts : List (List Nat × List Nat)} {vs : List V}, IsE K H (prD sts) vs → IsE K (noL H) (prD sts) vs
  | [], _, h => h
  | p :: r, _, h => by
    obtain ⟨y, s, rfl, ⟨q, ws, e, hT, hE⟩, b⟩ := h
    exact ⟨y, s, rfl, ⟨q, ws, e, sqT_noL hT, hE⟩, isE_noL b⟩
theorem stock_noL {C : Addr} {n : Int} {sts : List (List Nat × List Nat)} {H : Hp} {v : V} (h : Is K H (stockC K C n sts) v) : Is K (noL H) (stockC K C n sts) v := by
  obtain ⟨x, dx, ps, dd, rfl, h1, ⟨q, ws, e, hT, hE⟩, h3⟩ := h
  exact ⟨x, dx, ps, dd, rfl, noL_keep h1 (fun us e => by cases e), ⟨q, ws, e, sqT_noL hT, isE_noL hE⟩, noL_keep h3 (fun us e => by cases e)⟩
theorem er_makeC {σ : L2.St} {H : Hp} {tr : TA} {C : Addr} {n : Nat} {sts : List (List Nat × List Nat)} (h : Era K tr σ H [.i (n : Int), .L (stD sts)]) (hp : PairsOk n sts) : Er K (tMake C (spInit K C) [] E0 tr) σ H (stockC K C (n : Int) sts) := fun H1 e Q q =>
  h H1 e _ fun vs H2 e2 z => by
    rcases z with _ | ⟨z1, _ | ⟨z2, _ | _⟩⟩
    rename_i v1 v2
    obtain rfl : v1 = V.int (n : Int) := z1
    intro x dx hx hdx ne
    refine ⟨x, n, sts, v2, rfl, hp, dx, H2, H2, Ex.refl _, ?_, hx, upd_same, z2, fun G' A' s hv => ⟨rfl, q _ A' (e2.trans s.a) (hv.mono s.v)⟩⟩
    exact (Ex.new hdx).trans (Ex.new (by rw [upd_ne (Ne.symm ne)]; exact hx))
abbrev fpD (K : PySem.W.Frag) (G : Hp) (p : List Nat × List Nat) : Dd := frD K G [.s (S p.1), .s (S p.2)]
/-- the lists of a list of new lists -/
theorem fp_each {G H : Hp} : ∀ {sts : List (List Nat × List Nat)} {us : List V}, IsE K H (sts.map (fpD K G)) us → us.length = sts.length ∧ ∀ (k : Nat) (p : List Nat × List Nat), sts[k]? = some p → ∃ a : Addr, us[k]? = some (V.ref a) ∧ G a = none ∧ H a = some (.lst [.str (S p.1), .str (S p.2)])
  | [], us, h => by
    have e : us = [] := h
    subst e
    exact ⟨rfl, fun k p h => by cases h⟩
  | q :: r, us, h => by
    obtain ⟨y, s, rfl, ⟨a, ws, rfl, h1, h2, hE⟩, b⟩ := h
    obtain ⟨i1, i2⟩ := fp_each b
    refine ⟨by simp [i1], fun k p hk => ?_⟩
    cases k with
    | zero =>
      obtain rfl : q = p := Option.some.inj hk
      refine ⟨a, rfl, h1, ?_⟩
      obtain ⟨x1, r1, rfl, e1, x2, r2, rfl, e2, e3⟩ := hE
      obtain rfl : x1 = V.str (S q.1) := e1
      obtain rfl : x2 = V.str (S q.2) := e2
      obtain rfl : r2 = [] := e3
      exact h2
    | succ k => exact i2 k p hk
theorem fp_st {G H : Hp} {sts : List (List Nat × List Nat)} {v : V} (h : Is K H (frD K G (sts.map (fpD K G))) v) : Is K H (.L (stD sts)) v := by
  obtain ⟨p, us, rfl, h1, h2, h3⟩ := h
  exact Is.N2L ⟨p, us, rfl, h2, isE_map (f := fpD K G) (g := eD) (fun x H v z => by
    obtain ⟨q, ws, rfl, _, z2, z3⟩ := z
    exact Is.N2L ⟨q, ws, rfl, z2, z3⟩) h3⟩
/-! ### the store, and its makings spoilt -/
abbrev s__law_store : Stmt := topS 53
theorem sc__law_store : FnScope ["scene", "given", "store", "k", "entry"] ["scene"] (defScope s__law_store) := ⟨rfl, rfl, rfl, by decide +kernel, rfl, by decide +kernel, by decide +kernel⟩

abbrev scD (n : Nat) (mk : List Nat) (sts : List (List Nat × List Nat)) : Dd := .L [.i (n : Int), .s (S mk), .L (stD sts)]
abbrev sp__law_store (K : PySem.W.Frag) (C : Addr) : Sp := spR K (fun a : Nat × List Nat × List (List Nat × List Nat) => PairsOk a.1 a.2.2 ∧ a.1 ≤ 1000) (fun a => [scD a.1 a.2.1 a.2.2]) fun a => stockC K C (a.1 : Int) a.2.2
theorem has__law_store {C fI : Addr} {fdI : FuncData} (T : Txt K mg) (TS : StTxt K mg C) (h : At K mg "_law_store" s__law_store ["scene"]) (M_init : Mk K C fI) (F_init : FnOk P w K mg base CX0 4 fI fdI ["self", "size", "stamps"] (spInit K C)) (b_init : Binds K fdI ["self", "size", "stamps"] []) : Has P w K mg base 6 "_law_store" ["scene"] (sp__law_store K C) := by
  refine h.hasR sc__law_store (fun _ => rfl) fun f cdv A outer s H a vs Q E hr hp hv hk => ?_
  obtain ⟨n, mk, sts⟩ := a
  obtain ⟨h1, h2⟩ := hp
  replace h1 : PairsOk n sts := h1
  replace h2 : n ≤ 1000 := h2
  rcases hv with _ | ⟨hx, _ | _⟩
  rename_i x
  replace hx : Is K H (scD n mk sts) x := hx
  have sc := sc__law_store
  have few := h1.few
  refine ⟨_, (pss_cons (ps_setLc (i := 1) (own := [("entry", 4)]) (g := gName 4) (by rfl) sc.nd rfl rfl (sw_true rfl rfl rfl (by decide +kernel)) (pi_list_k (K := K) (pe_ix (ix_list_k (K := K)) (pv 0) pe_int (fun _ _ => rfl))) (blkOk_by (N := ["scene", "given", "store", "k", "entry"]) (sc := defScope s__law_store) (own := [("entry", 4)]) (by decide +kernel)) (fun _ _ _ _ _ => (pg_name (i := 4) sc.nd rfl (Or.inl rfl))) (fun _ _ _ _ _ => pts_nil) (fun _ _ _ _ _ => (pe_lst (pa_cons (pe_ix (ix_list_k (K := K)) (pv 4) pe_int (fun _ _ => rfl)) (pa_cons (pe_ix (ix_list_k (K := K)) (pv 4) pe_int (fun _ _ => rfl)) pa_nil)))))
    (pss_cons (ps_set (i := 2) sc.nd rfl (Or.inl rfl) (pe_make M_init F_init (hr.mono (by decide)) (by rfl) TS.mgC b_init .nil pass0 (pa_cons (pe_ix (ix_list_k (K := K)) (pv 0) pe_int (fun _ _ => rfl)) (pa_cons (pv 1) pa_nil))))
    (pss_cons (ps_for PassesOwn.never rfl (pi_range1 (by rfl) T.b_range (pa_cons (pe_callB (cr_len_k (K := K)) (by rfl) T.b_len (by decide +kernel) (pa_cons (pv 1) pa_nil)) pa_nil)) (pg_name (i := 3) sc.nd rfl (Or.inl rfl)) (pss_cons (ps_asg (pe_strS [115, 112, 111, 105, 108, 116] (by rfl)) (pg_sub (pe_ix (ix_list_k (K := K)) (pv 1) (pv 3) (fun _ _ => rfl)) pe_int set_list))
    (pss_one (ps_asg (pe_op op_mulS (pe_strS [122] (by rfl)) (pe_ix (ix_list_k (K := K)) (pv 0) pe_int (fun _ _ => rfl))) (pg_sub (pe_ix (ix_list_k (K := K)) (pv 1) (pv 3) (fun _ _ => rfl)) pe_int set_list)))))
    (pss_cons (ps_expr (pe_bm_k (K := K) PySem.F.plainAttrs_list PySem.F.slot_list_append PySem.F.type_list_append mt_append (pv 1) (pa_cons (pe_lst (pa_cons (pe_strS [115, 112, 111, 105, 108, 116] (by rfl)) (pa_cons (pe_op op_mulS (pe_strS [122] (by rfl)) (pe_ix (ix_list_k (K := K)) (pv 0) pe_int (fun _ _ => rfl))) pa_nil))) pa_nil)))
    (pss_one (ps_ret (pv 2))))))), ?_⟩
  refine a_asg (K := K) (d := frD K H (sts.map (fpD K H))) (Ef.er (Ef.to (ef_lcF (K := K) (G := H) (its := sts) (inj := eD) (vs := [4]) (fun _ => true) (fpD K H) (if_list (ef_place (i := 2) (ds := [.i (n : Int), .s (S mk), .L (stD sts)]) (ef_var (i := 0) rfl hx) er_c rfl)) (by omega) (fun i p v G' A' g1 g2 hi hv => ⟨_, fun Q q => q, rfl, fun H2 e Q q => q H2 (Ex.refl _), fun _ => Ef.as (ef_new (G := G') (efa_cons (ef_flat (er_place (i := 0) (ds := [.s (S p.1), .s (S p.2)]) (er_var rfl hv) er_c rfl)) (efa_cons (ef_flat (er_place (i := 1) (ds := [.s (S p.1), .s (S p.2)]) (er_var rfl hv) er_c rfl)) efa_nil)) (by simp)) fun Hx v z => by
    obtain ⟨q, us, rfl, z1, z2, z3⟩ := z
    exact ⟨q, us, rfl, ex_out g1 z1, z2, z3⟩⟩)) (by rw [filt_true]))) fun v1 H1 e1 i1 => ?_
  refine a_asg (K := K) (d := stockC K C (n : Int) sts) (er_makeC (n := n) (sts := sts) (era_cons (er_place (i := 0) (ds := [.i (n : Int), .s (S mk), .L (stD sts)]) (er_var rfl (hx.mono e1)) er_c rfl) (era_cons (er_var rfl (fp_st i1)) era_nil)) h1) fun vs H2 e2 i2 => ?_
  obtain ⟨p, us, rfl, hp0, hp1, hE⟩ := i1
  obtain ⟨lu, hu⟩ := fp_each hE
  have iN := stock_noL i2
  have eN : Ex (noL H2) H2 := noL_ex
  have hpN : noL H2 p = none := noL_none (e2 p _ hp1)
  have E2 := e1.trans e2
  refine b_forR1 (K := K) (n := sts.length) (era_cons (Er.to (er_cb (era_cons (er_var (d := .l us) rfl ⟨p, rfl, .inl (.inl (e2 p _ hp1))⟩) era_nil) rc_lenL) (by rw [lu])) era_nil) (by omega) (fun k σ' H' => ∃ y, σ' = [some x, some (.ref p), some vs, y, none] ∧ Ex H H' ∧ Ex (noL H2) H' ∧ H' p = some (.lst us) ∧ ∀ k, k < sts.length → ∃ a z1 z2, us[k]? = some (.ref a) ∧ H a = none ∧ noL H2 a = none ∧ a ≠ p ∧ H' a = some (.lst [z1, z2])) (fun H3 e3 => ⟨none, rfl, E2.trans e3, eN.trans e3, e3 p _ (e2 p _ hp1), fun k hk' => ?_⟩) ?_ ?_
  · obtain ⟨a, ha, h0, hl⟩ := hu k _ (List.getElem?_eq_getElem hk')
    refine ⟨a, _, _, ha, h0, noL_none (e2 a _ hl), fun z => ?_, e3 a _ (e2 a _ hl)⟩
    rw [z, hp1] at hl
    have q := HO.lst.inj (Option.some.inj hl)
    rw [q] at ha
    cases k with
    | zero => cases ha
    | succ k =>
      cases k with
      | zero => cases ha
      | succ k => cases ha
  · rintro k σ' H' hk' ⟨y, rfl, e, eV, hP, hA⟩
    obtain ⟨a, z1, z2, ha, h0, hN, hne, hl⟩ := hA k hk'
    have item : ∀ {H1 : Hp}, H1 p = some (.lst us) → Er K (tOp (rIxL K) (tVar 1) (tVar 3)) [some x, some (.ref p), some vs, some (.int (k : Int)), none] H1 (.v (.ref a)) := fun {H1} q => by
      have hL : Is K H1 (.L (us.map Dd.v)) (.ref p) := Is.l2L ⟨p, rfl, .inl (.inl q)⟩
      exact er_place (i := k) (er_var rfl hL) (er_v rfl) (by rw [List.getElem?_map, ha]; rfl)
    refine a_setixS (K := K) (l := a) (us := [z1, z2]) (i := 0) (x := .str (S [115, 112, 111, 105, 108, 116])) er_c (fun H1 e1 => item (e1 p _ hP)) er_c hl (by simp) fun H3 e3 => ?_
    have E3 : Ex H (upd H3 a (.lst ([z1, z2].set 0 (.str (S [115, 112, 111, 105, 108, 116]))))) := Ex.mut (e.trans e3) h0
    have V3 : Ex (noL H2) (upd H3 a (.lst ([z1, z2].set 0 (.str (S [115, 112, 111, 105, 108, 116]))))) := Ex.mut (eV.trans e3) hN
    have P3 : upd H3 a (.lst ([z1, z2].set 0 (.str (S [115, 112, 111, 105, 108, 116])))) p = some (.lst us) := by rw [upd_ne (Ne.symm hne)]; exact e3 p _ hP
    refine a_setix (K := K) (l := a) (us := [.str (S [115, 112, 111, 105, 108, 116]), z2]) (i := 1) (x := .str (S (List.replicate n 122))) (Er.to (er_op (d1 := .s (S [122])) er_c (er_place (i := 0) (ds := [.i (n : Int), .s (S mk), .L (stD sts)]) (er_var rfl (hx.mono E3)) er_c rfl) (ro_mulC h2 (by decide))) (by rw [List.flatten_replicate_singleton])) (fun H1 e1 => item (e1 p _ P3)) er_c upd_same (by simp) fun H4 e4 => ?_
    refine ⟨some (.int (k : Int)), rfl, Ex.mut (E3.trans e4) h0, Ex.mut (V3.trans e4) hN, ?_, fun k2 hk2 => ?_⟩
    · rw [upd_ne (Ne.symm hne)]
      exact e4 p _ P3
    · obtain ⟨a2, y1, y2, ha2, h02, hN2, hne2, hl2⟩ := hA k2 hk2
      by_cases q : a2 = a
      · subst q
        exact ⟨a2, _, _, ha2, h02, hN2, hne2, upd_same⟩
      · refine ⟨a2, y1, y2, ha2, h02, hN2, hne2, ?_⟩
        rw [upd_ne q]
        refine e4 a2 _ ?_
        rw [upd_ne q]
        exact e3 a2 _ hl2
  · rintro σ' H' ⟨y, rfl, e, eV, hP, hA⟩
    refine s_appS (K := K) (G := H) (d := .n [.str (S [115, 112, 111, 105, 108, 116]), .str (S (List.replicate n 122))]) hP hp0 e (er_v rfl) (ef_lstn (vs := [.str (S [115, 112, 111, 105, 108, 116]), .str (S (List.replicate n 122))]) (era_cons er_c (era_cons (Er.to (er_op (d1 := .s (S [122])) er_c (er_place (i := 0) (ds := [.i (n : Int), .s (S mk), .L (stD sts)]) (er_var rfl hx) er_c rfl) (ro_mulC h2 (by decide))) (by rw [List.flatten_replicate_singleton])) era_nil)) (by simp)) (by omega) fun w7 G8 A8 s8 z8 go8 us8 => ?_
    refine a_rete (K := K) (er_var (d := stockC K C (n : Int) sts) rfl (iN.mono (Ex.mut (eV.trans s8.a) hpN))) rfl (Ex.mut (e.trans s8.a) hp0) hk
end
end Mi

set_option maxHeartbeats 4000000
namespace Mi
open PySem PySem.Spec PyProof.Rows L2 Evl
local macro_rules | `(tactic| walk_at "side") => `(tactic| (first | assumption | omega | exact rfl | decide | (simp only [List.length_cons, List.length_nil, List.length_map, List.length_append, List.length_replicate] <;> omega)))
local macro_rules | `(tactic| walk_at "ro") => `(tactic| (first
  | with_reducible exact ro_I0
  | with_reducible exact ro_1018
  | with_reducible exact ro_neC
  | with_reducible exact ro_eqC
  | with_reducible exact ro_neI
  | with_reducible exact ro_eqI
  | with_reducible exact ro_neB
  | with_reducible exact ro_eqB
  | ((with_reducible apply ro_mod); (walk_at "side"))
  | ((with_reducible apply ro_div) <;> (walk_at "side"))
  | ((with_reducible apply ro_divW) <;> (walk_at "side"))
  | with_reducible exact ro_1012
  | with_reducible exact ro_1015
  | ((with_reducible apply ro_mulL) <;> (walk_at "side"))
  | ((with_reducible apply ro_mulR) <;> (walk_at "side"))
  | ((with_reducible apply ro_addC); (walk_at "side"))
  | ((with_reducible apply ro_ixC) <;> (walk_at "side"))
  | ((with_reducible apply ro_ixI) <;> (walk_at "side"))
  | ((with_reducible apply ro_ixIN) <;> (walk_at "side"))
  | ((with_reducible apply ro_ixT2) <;> (walk_at "side"))
  | ((with_reducible apply ro_ixG) <;> (walk_at "side"))
  | ((with_reducible apply ro_eq); exact rfl)
  | ((with_reducible apply ro_ne); exact rfl)
  | with_reducible exact ro_isN
  | with_reducible exact ro_notN
  | with_reducible exact ro_eqL
  | with_reducible exact ro_neL
  | with_reducible exact ro_eqU
  | ((with_reducible apply ro_cat); (walk_at "side"))
  | with_reducible exact ro_inLi
  | with_reducible exact ro_inNi
  | with_reducible exact ro_inUi
  | ((with_reducible apply ro_inL) <;> (walk_at "side"))
  | ((with_reducible apply ro_inN) <;> (walk_at "side"))
  | ((with_reducible apply ro_inU) <;> (walk_at "side"))))
local macro_rules | `(tactic| walk_at "rc") => `(tactic| (first
  | with_reducible exact rc_int
  | with_reducible exact rc_intB
  | with_reducible exact rc_max2
  | ((with_reducible apply rc_lenC); (walk_at "side"))
  | with_reducible exact rc_lenI
  | with_reducible exact rc_lenT
  | with_reducible exact rc_lenIN
  | with_reducible exact rc_lenTN
  | with_reducible exact rc_lenL
  | with_reducible exact rc_lenN
  | with_reducible exact rc_lenU
  | with_reducible exact rc_listL
  | with_reducible exact rc_listU
  | with_reducible exact rc_tupL
  | with_reducible exact rc_tupN
  | ((with_reducible apply rc_isi_int); decide +kernel)
  | ((with_reducible apply rc_isi_str); decide +kernel)
  | ((with_reducible apply rc_isi_bl); decide +kernel)
  | ((with_reducible apply rc_isi_non); decide +kernel)
  | ((with_reducible apply rc_isi_u); decide +kernel)
  | ((with_reducible apply rc_isi_l); decide +kernel)))
local macro_rules | `(tactic| walk_at "er") => `(tactic| (first
  | ((with_reducible apply er_var); (exact rfl); assumption)
  | ((with_reducible apply er_v); exact rfl)
  | with_reducible exact er_c
  | ((with_reducible apply er_pick); (walk_at "er"); (walk_at "er"); (walk_at "er"))
  | ((with_reducible apply er_op); (walk_at "er"); (walk_at "er"); (walk_at "ro"))
  | ((with_reducible apply er_cb); (walk_at "era"); (walk_at "rc"))
  | ((with_reducible apply er_lst'); (walk_at "era"); (exact rfl); (walk_at "side"))
  | ((with_reducible apply er_tup'); (walk_at "era"); (exact rfl); (walk_at "side"))
  | ((with_reducible apply er_notV); (walk_at "er"))
  | ((with_reducible apply er_andV); (walk_at "er"); (intro _; (walk_at "er")))
  | ((with_reducible apply er_orV); (walk_at "er"); (intro _; (walk_at "er")))
  | ((with_reducible apply er_ite); (walk_at "et"); (intro _; (walk_at "er")); (intro _; (walk_at "er")))))
local macro_rules | `(tactic| walk_at "era") => `(tactic| (first
  | with_reducible exact era_nil
  | ((with_reducible apply era_cons); (walk_at "er"); (walk_at "era"))))
local macro_rules | `(tactic| walk_at "et") => `(tactic| (first
  | ((with_reducible apply et_an); (walk_at "et"); (intro _; (walk_at "et")))
  | ((with_reducible apply et_orr); (walk_at "et"); (intro _; (walk_at "et")))
  | ((with_reducible apply et_nt); (walk_at "et"))
  | ((with_reducible apply et1); (walk_at "er"))
  | ((with_reducible apply et2); (walk_at "er"))))

section
variable {K : PySem.W.Frag} {σ : L2.St} {H : Hp} {t : TT} {tu tw tz : TS} {b : Bool} {D : Ends}
theorem a_ifP (Pm : L2.St → Hp → Prop) (h : Et K t σ H b) (hr : ∀ σ' H', Pm σ' H' → tz D σ' H') (h1 : (∀ σ' H', Pm σ' H' → tz D σ' H') → b = true → ∀ H1, Ex H H1 → tu { D with nx := tz D } σ H1) (h2 : (∀ σ' H', Pm σ' H' → tz D σ' H') → b = false → ∀ H1, Ex H H1 → tw { D with nx := tz D } σ H1) : tSeq (tIfS t tu tw) tz D σ H := a_if h (h1 hr) (h2 hr)
end
section
variable {P : Program} {w : World} {K : PySem.W.Frag} {mg : Str → Option Value} {base : Heap}
/-! ### the given pairs are not changed -/
def pdt (p : List Nat × List Nat) : PyData := .list [.str (S p.1), .str (S p.2)]
def TxOk (ps : List (List Nat × List Nat)) : Prop := ∀ p ∈ ps, (∀ c ∈ p.1, c ∈ signs) ∧ ∀ c ∈ p.2, c ∈ signs
theorem signs_ok {l : List Nat} (h : ∀ c ∈ l, c ∈ signs) : PyData.strOk (S l) = true := okT_of fun c hc => by
  have := h c hc
  revert this
  have q : ∀ c ∈ signs, c < 128 := by decide
  exact fun z => Nat.lt_trans (q c z) (by decide)
theorem lay_ps : ∀ {ps : List (List Nat × List Nat)}, TxOk ps → PyData.canLayAll0 (ps.map pdt) = true
  | [], _ => by simp [PyData.canLayAll0]
  | p :: r, h => by
    have h1 := h p (List.mem_cons_self ..)
    simp [PyData.canLayAll0, pdt, PyData.canLay0, lay_ps (ps := r) fun q hq => h q (List.mem_cons_of_mem _ hq), signs_ok h1.1, signs_ok h1.2]
theorem dep_ps : ∀ ps : List (List Nat × List Nat), PyData.depthAll (ps.map pdt) ≤ 2
  | [] => by simp [PyData.depthAll]
  | p :: r => by
    have := dep_ps r
    simp [PyData.depthAll, pdt, PyData.depth]
    omega
theorem shaped_ps {ps : List (List Nat × List Nat)} (h : TxOk ps) : SeqAt.shaped (.list (ps.map pdt)) = true := by
  have h1 := lay_ps h
  have h2 := dep_ps ps
  simp [SeqAt.shaped, PyData.canLay0, PyData.depth, h1]
  omega
theorem dp_all {H : Hp} : ∀ {ps : List (List Nat × List Nat)} {vs : List V}, IsE K H (stD ps) vs → DpAll K H vs (ps.map pdt)
  | [], vs, h => by
    have e : vs = [] := h
    subst e
    exact .nil
  | p :: r, vs, h => by
    obtain ⟨y, s, rfl, ⟨q, ws, rfl, hT, hE⟩, b⟩ := h
    obtain ⟨x1, r1, rfl, e1, x2, r2, rfl, e2, e3⟩ := hE
    obtain rfl : x1 = V.str (S p.1) := e1
    obtain rfl : x2 = V.str (S p.2) := e2
    obtain rfl : r2 = [] := e3
    exact .cons (.lst hT (.cons (.str _) (.cons (.str _) .nil))) (dp_all b)
theorem dp_st {H : Hp} {ps : List (List Nat × List Nat)} {x : V} (h : Is K H (.L (stD ps)) x) : Dp K H x (.list (ps.map pdt)) := by
  obtain ⟨q, ws, rfl, hT, hE⟩ := h
  exact .lst hT (dp_all hE)
theorem ro_neSt {ps : List (List Nat × List Nat)} (h : TxOk ps) : Ro K (rNeD K) (.L (stD ps)) (.L (stD ps)) (.b (!true)) := by
  intro x y H1 h1 h2 Q q
  refine ⟨_, _, dp_st h1, dp_st h2, shaped_ps h, shaped_ps h, q _ H1 (Ex.refl H1) ?_⟩
  show V.bl _ = V.bl (!true)
  rw [SeqAt.eqv_refl _ (by simp [PyData.canLay0, lay_ps h])]
theorem st_pD {H : Hp} {ps : List (List Nat × List Nat)} {x : V} (h : Is K H (.N (ps.map fun p => Dd.N [.s (S p.1), .s (S p.2)])) x) : Is K H (.L (stD ps)) x := by
  obtain ⟨p, us, rfl, h2, h3⟩ := h
  exact Is.N2L ⟨p, us, rfl, h2, isE_map (f := fun p => Dd.N [.s (S p.1), .s (S p.2)]) (g := eD) (fun x H v z => z.N2L) h3⟩
/-! ### asked once -/
structure OrdOk (sts ps : List (List Nat × List Nat)) (os : List (List (List Nat))) : Prop where
  hd : os.head? = orderM sts ps
  few : os.length ≤ 10000
abbrev s__law_asked_once : Stmt := topS 62
theorem sc__law_asked_once : FnScope ["store", "entries", "orders", "sheets", "turn", "named", "given", "told", "others", "stuck", "sheet"] ["store", "entries", "orders", "sheets", "turn", "named"] (defScope s__law_asked_once) := ⟨rfl, rfl, rfl, by decide +kernel, rfl, by decide +kernel, by decide +kernel⟩

theorem orderM_some {sts ps : List (List Nat × List Nat)} : (orderM sts ps).isSome = (decide (stuckS sts (seenM ps) (nmV sts) = []) && agreeAll sts ps) := by
  unfold orderM
  by_cases h : stuckS sts (seenM ps) (nmV sts) = []
  · rw [if_neg (by simp [h]), decide_eq_true h, Bool.true_and]
    by_cases h2 : agreeAll sts ps = true
    · rw [if_pos h2, h2]
      rfl
    · rw [if_neg h2]
      have : agreeAll sts ps = false := by simpa using h2
      rw [this]
      rfl
  · rw [if_pos (by simpa using h), decide_eq_false h]
    rfl
theorem order_len {sts ps : List (List Nat × List Nat)} {r : List (List Nat)} {n : Nat} (h1 : StOk n sts) (h : orderM sts ps = some r) : r.length ≤ 1000 := by
  have hl : ∀ (k : Nat) (ns : List (List Nat)), (orderG (stampOf sts) (seenM ps) k ns).length ≤ k := by
    intro k
    induction k with
    | zero => intro ns; exact Nat.le_refl _
    | succ k ih =>
      intro ns
      unfold orderG
      split
      · exact Nat.zero_le _
      · rw [List.length_cons]
        exact Nat.succ_le_succ (ih _)
  unfold orderM at h
  split at h
  · cases h
  · split at h
    · rw [← Option.some.inj h]
      exact Nat.le_trans (hl _ _) (h1.nm.few)
    · cases h
theorem stuck_len {sts : List (List Nat × List Nat)} {ls : List (List Nat)} {n : Nat} (h1 : StOk n sts) (hz : Siz n ls) : (stuckS sts ls (nmV sts)).length ≤ 1000 := by
  obtain ⟨q, q1, q2, q3, q4, q5⟩ := stuckG_is (st := stampOf sts) (k := (nmV sts).length) (ls := ls) (ns := nmV sts) (Nat.le_refl _) h1.di
  show (stuckG (stampOf sts) (nmV sts).length ls (nmV sts)).length ≤ 1000
  rw [q4]
  exact Nat.le_trans (List.length_filter_le _ _) h1.nm.few
abbrev sp__law_asked_once (K : PySem.W.Frag) (C : Addr) : Sp := spR K (fun a : (Nat × List (List Nat × List Nat) × List (List Nat × List Nat)) × List (List (List Nat)) × Nat × Bool => (StOk a.1.1 a.1.2.1 ∧ PsOk a.1.1 a.1.2.2 ∧ TxOk a.1.2.2) ∧ OrdOk a.1.2.1 a.1.2.2 a.2.1) (fun a => [stockC K C (a.1.1 : Int) a.1.2.1, .L (stD a.1.2.1), .L (a.2.1.map fun r => Dd.U (tsD r)), .L (stD a.1.2.2), .i (a.2.2.1 : Int), .b a.2.2.2]) fun _ => .b true
theorem has__law_asked_once {C : Addr} (T : Txt K mg) (h : At K mg "_law_asked_once" s__law_asked_once ["store", "entries", "orders", "sheets", "turn", "named"]) (C__law_given : Has P w K mg base 1 "_law_given" ["sheets", "turn"] (sp__law_given K)) (C_common_order : Has P w K mg base 6 "common_order" ["stock", "pairs"] (sp_co K C)) (C_common_stuck : Has P w K mg base 5 "common_stuck" ["stock", "pairs"] (sp_cs K C)) (C__law_common_stuck : Has P w K mg base 2 "_law_common_stuck" ["entries", "lefts"] (sp__law_common_stuck K)) (C__law_texts : Has P w K mg base 1 "_law_texts" ["told", "due"] (sp__law_texts K)) (C__law_starts_agree : Has P w K mg base 2 "_law_starts_agree" ["entries", "sheets"] (sp__law_starts_agree K)) : Has P w K mg base 7 "_law_asked_once" ["store", "entries", "orders", "sheets", "turn", "named"] (sp__law_asked_once K C) := by
  refine h.hasR sc__law_asked_once (fun _ => rfl) fun f cdv A outer s H a vs Q E hr hp hv hk => ?_
  obtain ⟨⟨n, sts, ps⟩, os, turn, named⟩ := a
  obtain ⟨⟨h1, h2, hT⟩, h3⟩ := hp
  replace h1 : StOk n sts := h1
  replace h2 : PsOk n ps := h2
  replace h3 : OrdOk sts ps os := h3
  replace hT : TxOk ps := hT
  rcases hv with _ | ⟨hx, _ | ⟨hs, _ | ⟨ho, _ | ⟨hps, _ | ⟨rfl, _ | ⟨rfl, _ | _⟩⟩⟩⟩⟩⟩
  rename_i x xs xo xp
  replace hx : Is K H (stockC K C (n : Int) sts) x := hx
  replace hs : Is K H (.L (stD sts)) xs := hs
  replace ho : Is K H (.L (os.map fun r => Dd.U (tsD r))) xo := ho
  replace hps : Is K H (.L (stD ps)) xp := hps
  have sc := sc__law_asked_once
  have few := h2.few
  have hst := stuck_len h1 h2.siz
  have hlaw := lawN_is h1 h2.siz
  refine ⟨_, (pss_cons (ps_set (i := 6) sc.nd rfl (Or.inl rfl) (pe_callH C__law_given (hr.mono (by decide)) (pa_cons (pv 3) (pa_cons (pv 4) pa_nil))))
    (pss_cons (ps_if (pt_val (pv 5)) (pss_cons (ps_set (i := 7) sc.nd rfl (Or.inl rfl) (pe_callH2 C_common_order (hr.mono (by decide)) (pv 6) (pv 0)))
    (pss_one (ps_set (i := 8) sc.nd rfl (Or.inl rfl) (pe_callH2 C_common_stuck (hr.mono (by decide)) (pv 6) (pv 0))))) (pss_cons (ps_set (i := 7) sc.nd rfl (Or.inl rfl) (pe_callH C_common_order (hr.mono (by decide)) (pa_cons (pv 0) (pa_cons (pv 6) pa_nil))))
    (pss_one (ps_set (i := 8) sc.nd rfl (Or.inl rfl) (pe_callH C_common_stuck (hr.mono (by decide)) (pa_cons (pv 0) (pa_cons (pv 6) pa_nil)))))))
    (pss_cons (ps_set (i := 9) sc.nd rfl (Or.inl rfl) (pe_callH C__law_common_stuck (hr.mono (by decide)) (pa_cons (pv 1) (pa_cons (pe_lc (own := [("sheet", 10)]) (g := gName 10) (by rfl) sc.nd (pi_list_k (K := K) (pv 3)) (blkOk_by (N := ["store", "entries", "orders", "sheets", "turn", "named", "given", "told", "others", "stuck", "sheet"]) (sc := defScope s__law_asked_once) (own := [("sheet", 10)]) (by decide +kernel)) (fun _ _ _ _ _ => (pg_name (i := 10) sc.nd rfl (Or.inl rfl))) (fun _ _ _ _ _ => pts_nil) (fun _ _ _ _ _ => (pe_ix (ix_list_k (K := K)) (pv 10) pe_int (fun _ _ => rfl)))) pa_nil))))
    (pss_cons (ps_if (PW.pt (pw_or (pt_not (pt_val (pe_callH C__law_texts (hr.mono (by decide)) (pa_cons (pv 8) (pa_cons (pv 9) pa_nil))))) (pw_or1 (pt_cmpR (op_neD_k (K := K) hr.units) (pe_lc (own := [("sheet", 10)]) (g := gName 10) (by rfl) sc.nd (pi_seqV (K := K) (pv 6)) (blkOk_by (N := ["store", "entries", "orders", "sheets", "turn", "named", "given", "told", "others", "stuck", "sheet"]) (sc := defScope s__law_asked_once) (own := [("sheet", 10)]) (by decide +kernel)) (fun _ _ _ _ _ => (pg_name (i := 10) sc.nd rfl (Or.inl rfl))) (fun _ _ _ _ _ => pts_nil) (fun _ _ _ _ _ => (pe_callTy (cr_list_k (K := K)) (by rfl) T.b_list (by decide +kernel) (pa_cons (pv 10) pa_nil)))) (pv 3) (nomark _))))) (pss_one (ps_ret pe_bl)) pss_nil)
    (pss_cons (ps_if (pt_cmpR op_ne (pe_cmpR op_gt (pe_callB (cr_len_k (K := K)) (by rfl) T.b_len (by decide +kernel) (pa_cons (pv 2) pa_nil)) pe_int (nomark _)) (pe_and (pe_cmpR op_eq (pe_callB (cr_len_k (K := K)) (by rfl) T.b_len (by decide +kernel) (pa_cons (pv 9) pa_nil)) pe_int (nomark _)) (pe_one (pe_callH C__law_starts_agree (hr.mono (by decide)) (pa_cons (pv 1) (pa_cons (pv 3) pa_nil))))) (nomark _)) (pss_one (ps_ret pe_bl)) pss_nil)
    (pss_cons (ps_if (pt_cmpR op_eq (pe_callB (cr_len_k (K := K)) (by rfl) T.b_len (by decide +kernel) (pa_cons (pv 2) pa_nil)) pe_int (nomark _)) (pss_one (ps_ret (pe_cmpR op_isN1 (pv 7) pe_non (nomark _)))) pss_nil)
    (pss_one (ps_ret (pe_callH C__law_texts (hr.mono (by decide)) (pa_cons (pv 7) (pa_cons (pe_ix (ix_list_k (K := K)) (pv 2) pe_int (fun _ _ => rfl)) pa_nil))))))))))), ?_⟩
  refine a_asg (K := K) (d := gpD (decide (turn / 2 = 1)) (decide (turn % 2 = 1)) ps) (er_call (ps, turn) (era_cons (er_var rfl hps) (era_cons (er_v rfl) era_nil)) rfl few) fun vg H1 e1 ig => ?_
  generalize decide (turn / 2 = 1) = b1 at ig
  generalize decide (turn % 2 = 1) = b2 at ig
  refine a_ifP (K := K) (b := named) (fun σ' H2 => ∃ vt vo, Ex H H2 ∧ σ' = [some x, some xs, some xo, some xp, some (.int (turn : Int)), some (.bl named), some vg, some vt, some vo, none, none] ∧ Is K H2 (orderD (orderM sts ps)) vt ∧ Is K H2 (.U (tsD (stuckS sts (seenM ps) (nmV sts)))) vo ∧ Ex H1 H2) (et2 (er_v rfl)) ?_ (fun hr' hb H2 e2 => ?_) (fun hr' hb H2 e2 => ?_)
  · rintro σ' H2 ⟨vt, vo, E2, rfl, it, io, V2⟩
    refine a_asg (K := K) (d := .N (tsD (lawN sts (seenM ps)))) (er_call (n, sts, seenM ps) (era_cons (er_var rfl (hs.mono E2)) (era_cons (Er.as (Ef.er (ef_lc (K := K) (G := H2) (its := ps) (inj := eD) (vs := [10]) (fun _ => true) (fun p => Dd.s (S p.2)) (if_list (ef_var (i := 3) rfl (hps.mono E2))) (by omega) (fun i p v G' A' g1 g2 hi hv => ⟨_, fun Q q => q, rfl, fun H2 e Q q => q H2 (Ex.refl _), fun _ => ef_flat (er_place (i := 1) (ds := [.s (S p.1), .s (S p.2)]) (er_var rfl hv) er_c rfl)⟩))) fun Hx v z => is_cast z.N2L (congrArg Dd.L seen_eq)) era_nil)) rfl ⟨h1, h2.siz, by show (seenM ps).length ≤ 1000; rw [List.length_map]; exact few⟩) fun vk H3 e3 ik => ?_
    rw [hlaw] at ik
    have E3 := E2.trans e3
    refine a_when (K := K) (b := !(decide (stuckS sts (seenM ps) (nmV sts) = stuckS sts (seenM ps) (nmV sts))) || !true) (et_orr (et_nt (et2 (er_call (stuckS sts (seenM ps) (nmV sts), false, stuckS sts (seenM ps) (nmV sts)) (era_cons (er_var rfl (io.mono e3)) (era_cons (er_var rfl ik) era_nil)) rfl ⟨hst, hst⟩))) fun _ => et1 (er_op (Er.as (Ef.er (ef_lc (K := K) (G := H3) (its := ps) (inj := pD b2) (vs := [10]) (fun _ => true) (fun p => Dd.N [.s (S p.1), .s (S p.2)]) (if_sq (i := 6) rfl (ig.mono (V2.trans e3))) (by omega) (fun i p v G' A' g1 g2 hi hv => ⟨_, fun Q q => q, rfl, fun H2 e Q q => q H2 (Ex.refl _), fun _ => ?_⟩))) fun Hx v z => st_pD (by rw [filt_true] at z; exact z)) (er_var rfl (hps.mono E3)) (ro_neSt hT))) (fun hb => absurd hb (by simp)) fun _ H4 e4 => ?_
    · cases b2
      · exact ef_cb (efa_cons (ef_var rfl (Is.N2L hv)) efa_nil) rf_listL
      · exact ef_cb (efa_cons (ef_var rfl hv) efa_nil) rf_listU
    have E4 := E3.trans e4
    have ok4 := ik.mono e4
    have lo : (os.map fun r => Dd.U (tsD r)).length = os.length := by rw [List.length_map]
    have hsome : decide ((0 : Int) < (os.length : Int)) = (decide (((stuckS sts (seenM ps) (nmV sts)).length : Int) = 0) && agreeAll sts ps) := by
      have q := orderM_some (sts := sts) (ps := ps)
      rw [← h3.hd] at q
      have q2 : decide (((stuckS sts (seenM ps) (nmV sts)).length : Int) = 0) = decide (stuckS sts (seenM ps) (nmV sts) = []) := decide_eq_decide.mpr (by rw [← List.length_eq_zero_iff]; omega)
      rw [q2, ← q]
      cases os with
      | nil => rfl
      | cons a b =>
        exact decide_eq_true (by rw [List.length_cons]; omega)
    refine a_when (K := K) (b := !decide (decide ((0 : Int) < (os.length : Int)) = (decide (((stuckS sts (seenM ps) (nmV sts)).length : Int) = 0) && agreeAll sts ps))) (et1 (er_op (er_op (Er.to (er_cb (era_cons (er_var rfl (ho.mono E4)) era_nil) rc_lenLd) (by rw [lo])) er_c ro_I0) (er_andV (er_op (Er.to (er_cb (era_cons (er_var rfl ok4) era_nil) rc_lenNd) (by rw [tsD_len])) er_c ro_eqI) fun _ => er_call (n, sts, ps) (era_cons (er_var rfl (hs.mono E4)) (era_cons (er_var rfl (hps.mono E4)) era_nil)) rfl ⟨h1, h2⟩) ro_neB)) (fun hb => absurd hb (by rw [decide_eq_true hsome]; simp)) fun _ H5 e5 => ?_
    have E5 := E4.trans e5
    have it5 := it.mono ((e3.trans e4).trans e5)
    refine a_when (K := K) (b := decide ((os.length : Int) = 0)) (et1 (er_op (Er.to (er_cb (era_cons (er_var rfl (ho.mono E5)) era_nil) rc_lenLd) (by rw [lo])) er_c ro_eqI)) (fun hb H6 e6 => ?_) fun hb H6 e6 => ?_
    · have hn : os = [] := List.length_eq_zero_iff.mp (by have := of_decide_eq_true hb; omega)
      have hd := h3.hd
      rw [hn] at hd
      rw [← hd] at it5
      exact a_rete (K := K) (er_op (d1 := .v .non) (er_var rfl (it5.mono e6)) er_c ro_isN) (by simp) (E5.trans e6) hk
    · cases os with
      | nil => simp at hb
      | cons r os =>
        have hd := h3.hd
        replace hd : some r = orderM sts ps := hd
        have hrl := order_len h1 hd.symm
        rw [← hd] at it5
        exact a_rete (K := K) (er_call (r, true, r) (era_cons (er_var rfl (it5.mono e6)) (era_cons (er_place (i := 0) (er_var rfl (ho.mono (E5.trans e6))) er_c rfl) era_nil)) rfl ⟨hrl, hrl⟩) (by simp) (E5.trans e6) hk
  · have E2 := e1.trans e2
    refine a_asg (K := K) (d := orderD (orderM sts ps)) (er_call2 ((n, sts), (b1, b2), ps) (er_var rfl (ig.mono e2)) (er_var rfl (hx.mono E2)) rfl ⟨h1, h2⟩) fun vt H3 e3 it => ?_
    refine a_asg1 (K := K) (d := .U (tsD (stuckS sts (seenM ps) (nmV sts)))) (er_call2 ((n, sts), (b1, b2), ps) (er_var rfl (ig.mono (e2.trans e3))) (er_var rfl (hx.mono (E2.trans e3))) rfl ⟨h1, h2⟩) fun vo H4 e4 io => ?_
    exact hr' _ _ ⟨vt, vo, (E2.trans e3).trans e4, rfl, it.mono e4, io, (e2.trans e3).trans e4⟩
  · have E2 := e1.trans e2
    refine a_asg (K := K) (d := orderD (orderM sts ps)) (er_call ((n, sts), (b1, b2), ps) (era_cons (er_var rfl (hx.mono E2)) (era_cons (er_var rfl (ig.mono e2)) era_nil)) rfl ⟨h1, h2⟩) fun vt H3 e3 it => ?_
    refine a_asg1 (K := K) (d := .U (tsD (stuckS sts (seenM ps) (nmV sts)))) (er_call ((n, sts), (b1, b2), ps) (era_cons (er_var rfl (hx.mono (E2.trans e3))) (era_cons (er_var rfl (ig.mono (e2.trans e3))) era_nil)) rfl ⟨h1, h2⟩) fun vo H4 e4 io => ?_
    exact hr' _ _ ⟨vt, vo, (E2.trans e3).trans e4, rfl, it.mono e4, io, (e2.trans e3).trans e4⟩
end
end Mi

set_option maxHeartbeats 4000000
namespace Mi
open PySem PySem.Spec PyProof.Rows L2 Evl
local macro_rules | `(tactic| walk_at "side") => `(tactic| (first | assumption | omega | exact rfl | decide | (simp only [List.length_cons, List.length_nil, List.length_map, List.length_append, List.length_replicate] <;> omega)))
local macro_rules | `(tactic| walk_at "ro") => `(tactic| (first
  | with_reducible exact ro_I0
  | with_reducible exact ro_1018
  | with_reducible exact ro_neC
  | with_reducible exact ro_eqC
  | with_reducible exact ro_neI
  | with_reducible exact ro_eqI
  | with_reducible exact ro_neB
  | with_reducible exact ro_eqB
  | ((with_reducible apply ro_mod); (walk_at "side"))
  | ((with_reducible apply ro_div) <;> (walk_at "side"))
  | ((with_reducible apply ro_divW) <;> (walk_at "side"))
  | with_reducible exact ro_1012
  | with_reducible exact ro_1015
  | ((with_reducible apply ro_mulL) <;> (walk_at "side"))
  | ((with_reducible apply ro_mulR) <;> (walk_at "side"))
  | ((with_reducible apply ro_addC); (walk_at "side"))
  | ((with_reducible apply ro_ixC) <;> (walk_at "side"))
  | ((with_reducible apply ro_ixI) <;> (walk_at "side"))
  | ((with_reducible apply ro_ixIN) <;> (walk_at "side"))
  | ((with_reducible apply ro_ixT2) <;> (walk_at "side"))
  | ((with_reducible apply ro_ixG) <;> (walk_at "side"))
  | ((with_reducible apply ro_eq); exact rfl)
  | ((with_reducible apply ro_ne); exact rfl)
  | with_reducible exact ro_isN
  | with_reducible exact ro_notN
  | with_reducible exact ro_eqL
  | with_reducible exact ro_neL
  | with_reducible exact ro_eqU
  | ((with_reducible apply ro_cat); (walk_at "side"))
  | with_reducible exact ro_inLi
  | with_reducible exact ro_inNi
  | with_reducible exact ro_inUi
  | ((with_reducible apply ro_inL) <;> (walk_at "side"))
  | ((with_reducible apply ro_inN) <;> (walk_at "side"))
  | ((with_reducible apply ro_inU) <;> (walk_at "side"))))
local macro_rules | `(tactic| walk_at "rc") => `(tactic| (first
  | with_reducible exact rc_int
  | with_reducible exact rc_intB
  | with_reducible exact rc_max2
  | ((with_reducible apply rc_lenC); (walk_at "side"))
  | with_reducible exact rc_lenI
  | with_reducible exact rc_lenT
  | with_reducible exact rc_lenIN
  | with_reducible exact rc_lenTN
  | with_reducible exact rc_lenL
  | with_reducible exact rc_lenN
  | with_reducible exact rc_lenU
  | with_reducible exact rc_listL
  | with_reducible exact rc_listU
  | with_reducible exact rc_tupL
  | with_reducible exact rc_tupN
  | ((with_reducible apply rc_isi_int); decide +kernel)
  | ((with_reducible apply rc_isi_str); decide +kernel)
  | ((with_reducible apply rc_isi_bl); decide +kernel)
  | ((with_reducible apply rc_isi_non); decide +kernel)
  | ((with_reducible apply rc_isi_u); decide +kernel)
  | ((with_reducible apply rc_isi_l); decide +kernel)))
local macro_rules | `(tactic| walk_at "er") => `(tactic| (first
  | ((with_reducible apply er_var); (exact rfl); assumption)
  | ((with_reducible apply er_v); exact rfl)
  | with_reducible exact er_c
  | ((with_reducible apply er_pick); (walk_at "er"); (walk_at "er"); (walk_at "er"))
  | ((with_reducible apply er_op); (walk_at "er"); (walk_at "er"); (walk_at "ro"))
  | ((with_reducible apply er_cb); (walk_at "era"); (walk_at "rc"))
  | ((with_reducible apply er_lst'); (walk_at "era"); (exact rfl); (walk_at "side"))
  | ((with_reducible apply er_tup'); (walk_at "era"); (exact rfl); (walk_at "side"))
  | ((with_reducible apply er_notV); (walk_at "er"))
  | ((with_reducible apply er_andV); (walk_at "er"); (intro _; (walk_at "er")))
  | ((with_reducible apply er_orV); (walk_at "er"); (intro _; (walk_at "er")))
  | ((with_reducible apply er_ite); (walk_at "et"); (intro _; (walk_at "er")); (intro _; (walk_at "er")))))
local macro_rules | `(tactic| walk_at "era") => `(tactic| (first
  | with_reducible exact era_nil
  | ((with_reducible apply era_cons); (walk_at "er"); (walk_at "era"))))
local macro_rules | `(tactic| walk_at "et") => `(tactic| (first
  | ((with_reducible apply et_an); (walk_at "et"); (intro _; (walk_at "et")))
  | ((with_reducible apply et_orr); (walk_at "et"); (intro _; (walk_at "et")))
  | ((with_reducible apply et_nt); (walk_at "et"))
  | ((with_reducible apply et1); (walk_at "er"))
  | ((with_reducible apply et2); (walk_at "er"))))

section
variable {P : Program} {w : World} {K : PySem.W.Frag} {mg : Str → Option Value} {base : Heap}
theorem getD_szN {l : List Nat} {k : Nat} (h : k < l.length) : l.getD k 0 = l[k] := by
  rw [List.getD_eq_getElem?_getD, List.getElem?_eq_getElem h]
  rfl
theorem getD_inj {l : List Nat} (hn : l.Nodup) {i j : Nat} (hi : i < l.length) (hj : j < l.length) (h : l.getD i 0 = l.getD j 0) : i = j := by
  rw [getD_szN hi, getD_szN hj] at h
  rcases Nat.lt_trichotomy i j with q | q | q
  · exact absurd h (List.pairwise_iff_getElem.mp hn i j hi hj q)
  · exact q
  · exact absurd h.symm (List.pairwise_iff_getElem.mp hn j i hj hi q)
theorem alls_nodup : alls.Nodup := by decide +kernel
theorem alls_no : ∀ c ∈ alls, c ≠ 45 := by decide
structure InksOk (ik : List Nat) : Prop where
  len : ik.length = 3
  nodup : ik.Nodup
  mem : ∀ c ∈ ik, c ∈ alls
structure TX (size : Nat) (t : List Nat) : Prop where
  l : t.length = size
  sg : ∀ c ∈ t, c = 45 ∨ c ∈ alls
  ne : ∃ c ∈ t, c ≠ 45
theorem stamp_of {size : Nat} {t : List Nat} (h : TX size t) (h1 : 1 ≤ size) (h30 : size ≤ 30) : stampOk t size = true := by
  have hl := h.l
  unfold stampOk layerOk
  simp only [Bool.and_eq_true, decide_eq_true_eq]
  refine ⟨⟨⟨by omega, by omega⟩, List.all_eq_true.mpr fun c hc => ?_⟩, by omega, ?_⟩
  · unfold signOk
    rw [Bool.or_eq_true, decide_eq_true_eq, decide_eq_true_eq]
    exact h.sg c hc
  · obtain ⟨c, hc, hne⟩ := h.ne
    obtain ⟨i, hi, hi2⟩ := List.getElem_of_mem hc
    have hz : (c, i) ∈ t.zipIdx := List.mem_of_getElem? (zipIdx_at (by rw [List.getElem?_eq_getElem hi, hi2]))
    have hm : ((i : Nat) : Int) ∈ cellsM t := List.mem_map.mpr ⟨(c, i), List.mem_filter.mpr ⟨hz, by simpa using hne⟩, rfl⟩
    have : 0 < (cellsM t).length := List.length_pos_of_mem hm
    rw [List.length_map]
    omega
theorem inksM_ok {sp : List Int} (h : InkOk sp) (b4 : 0 ≤ sp.getD 2 0 ∧ sp.getD 2 0 < 26) (b5 : 0 ≤ sp.getD 3 0 ∧ sp.getD 3 0 < 25) : InksOk (inksM sp) := by
  have la : alls.length = 27 := rfl
  have hF := inkF_bd h
  unfold inksM ink3 ink2
  generalize inkF sp = f at hF ⊢
  generalize sp.getD 2 0 = n at b4 ⊢
  generalize sp.getD 3 0 = m at b5 ⊢
  have key : ∀ i j k : Nat, i < 27 → j < 27 → k < 27 → i ≠ j → i ≠ k → j ≠ k → InksOk [alls.getD i 0, alls.getD j 0, alls.getD k 0] := fun i j k hi hj hk h1 h2 h3 => by
    refine ⟨rfl, ?_, fun c hc => ?_⟩
    · simp only [List.nodup_cons, List.mem_cons, List.not_mem_nil, or_false, not_or, List.nodup_nil, and_true, not_false_eq_true]
      refine ⟨⟨fun e => h1 (getD_inj alls_nodup hi hj e), fun e => h2 (getD_inj alls_nodup hi hk e)⟩, fun e => h3 (getD_inj alls_nodup hj hk e)⟩
    · simp only [List.mem_cons, List.not_mem_nil, or_false] at hc
      rcases hc with rfl | rfl | rfl
      · exact getD_memL hi
      · exact getD_memL hj
      · exact getD_memL hk
  refine key _ _ _ (by omega) (by omega) ?_ (by omega) ?_ ?_
  · split <;> omega
  · split <;> omega
  · split <;> omega

theorem st_ok {marks : List Nat} {row : List Int} {dashes : Nat} (hl : marks.length = 3) (hm : ∀ c ∈ marks, c ∈ alls) (h : RowD row dashes) (h30 : row.length ≤ 30) : stampOk (stM marks row dashes) row.length = true := by
  have h1 := h.one
  have mg : ∀ j, j < 3 → marks.getD j 0 ∈ alls := fun j hj => hm _ (getD_memL (by omega))
  have hmenu : ∀ c ∈ stMenu marks dashes, c = 45 ∨ c ∈ alls := fun c hc => by
    unfold stMenu at hc
    simp only [List.mem_append, List.mem_singleton, List.mem_replicate] at hc
    rcases hc with (((⟨_, rfl⟩ | rfl) | rfl) | rfl) | rfl
    · exact .inl rfl
    · exact .inr (mg 0 (by decide))
    · exact .inr (mg 0 (by decide))
    · exact .inr (mg 1 (by decide))
    · exact .inr (mg 2 (by decide))
  have l0 : (st0 marks row dashes).length = row.length := by rw [st0, List.length_map]
  have c0 : ∀ c ∈ st0 marks row dashes, c = 45 ∨ c ∈ alls := fun c hc => by
    obtain ⟨d, hd, rfl⟩ := List.mem_map.mp hc
    have q1 := h.lo d hd
    have q2 := h.hi d hd
    exact hmenu _ (getD_memL (by rw [stMenu_len]; omega))
  have hfix : marks.getD (row.getD 0 0 % 2).toNat 0 ∈ alls := by
    have q0 : 0 ≤ row.getD 0 0 % 2 := Int.emod_nonneg _ (by decide)
    have q1 : row.getD 0 0 % 2 < 2 := Int.emod_lt_of_pos _ (by decide)
    exact mg _ (by omega)
  obtain ⟨q1, q2⟩ := mod_nat (a := row.sum) (n := row.length) (by omega)
  refine stamp_of ?_ h1 h30
  unfold stM
  by_cases hb : st0 marks row dashes = List.replicate row.length 45
  · rw [if_pos hb]
    unfold stFix
    refine ⟨?_, fun c hc => ?_, ⟨_, List.mem_append_left _ (List.mem_append_right _ (List.mem_singleton.mpr rfl)), alls_no _ hfix⟩⟩
    · simp only [List.length_append, List.length_take, List.length_drop, List.length_singleton]
      omega
    · rcases List.mem_append.mp hc with hc | hc
      · rcases List.mem_append.mp hc with hc | hc
        · exact c0 c (List.mem_of_mem_take hc)
        · rw [List.mem_singleton.mp hc]
          exact .inr hfix
      · exact c0 c (List.mem_of_mem_drop hc)
  · rw [if_neg hb]
    refine ⟨l0, c0, ?_⟩
    refine Classical.byContradiction fun hno => hb ?_
    refine List.eq_replicate_iff.mpr ⟨l0, fun c hc => ?_⟩
    exact Classical.byContradiction fun q => hno ⟨c, hc, q⟩
/-! ### a stock drawn -/
structure StkOk (z : Nat) (mk : List Nat) (sts : List (List Nat × List Nat)) : Prop where
  po : PairsOk z sts
  ik : InksOk mk
  z1 : 1 ≤ z
  z30 : z ≤ 30
  m7 : sts.length ≤ 7
def drawnD (K : PySem.W.Frag) : Dd := .P ⟨fun H y => ∃ (z : Nat) (mk : List Nat) (sts : List (List Nat × List Nat)) (e : List V), StkOk z mk sts ∧ Is K H (.L [.i (z : Int), .s (S mk), .L (stD sts), .n e]) y, by
  rintro H H' y e ⟨z, mk, sts, e2, h1, h2⟩
  exact ⟨z, mk, sts, e2, h1, h2.mono e⟩⟩
def szH : List Int := [12, 32, 2, 4, 27, 26, 25, 25]
def szW : List Int := [8, 10, 8, 8]
theorem szH_ok : szH.length ≤ 1000 ∧ ∀ s ∈ szH, 0 < s ∧ s < 1000000 := by decide
theorem szW_ok : szW.length ≤ 1000 ∧ ∀ s ∈ szW, 0 < s ∧ s < 1000000 := by decide
theorem szH_pos : ∀ s ∈ szH, 0 < s := by decide
theorem szW_pos : ∀ s ∈ szW, 0 < s := by decide
theorem row4 : ∀ {l : List Int}, l.length = 4 → (∀ j, j < 4 → 0 ≤ l.getD j 0) → l = rowW ((l.getD 0 0).toNat, (l.getD 1 0).toNat, (l.getD 2 0).toNat, (l.getD 3 0).toNat)
  | [a, b, c, d], _, h => by
    have h0 : 0 ≤ a := h 0 (by decide)
    have h1 : 0 ≤ b := h 1 (by decide)
    have h2 : 0 ≤ c := h 2 (by decide)
    have h3 : 0 ≤ d := h 3 (by decide)
    show [a, b, c, d] = [((a.toNat : Nat) : Int), ((b.toNat : Nat) : Int), ((c.toNat : Nat) : Int), ((d.toNat : Nat) : Int)]
    rw [Int.toNat_of_nonneg h0, Int.toNat_of_nonneg h1, Int.toNat_of_nonneg h2, Int.toNat_of_nonneg h3]
def manL : List Nat := [3, 4, 5, 2, 4, 5, 3, 6, 4, 1, 4, 0, 3, 4, 5, 2, 4, 5, 3, 6, 7, 3, 5, 2, 4, 3, 2, 5, 3, 4, 1, 4]
def manI : List Int := [3, 4, 5, 2, 4, 5, 3, 6, 4, 1, 4, 0, 3, 4, 5, 2, 4, 5, 3, 6, 7, 3, 5, 2, 4, 3, 2, 5, 3, 4, 1, 4]
theorem man_eq : ∀ j, j < 32 → manI.getD j 0 = ((manL.getD j 0 : Nat) : Int) ∧ manL.getD j 0 ≤ 7 := by decide
def sizL (h7 : Int) : List Int := [3, 4, 3, 2, 4, 5, 5, 3, 6 + h7, 1, 6 + h7, 6 + h7]
theorem siz_bd {h7 : Int} (h0 : 0 ≤ h7) (h1 : h7 < 25) : ∀ j, j < 12 → 1 ≤ (sizL h7).getD j 0 ∧ (sizL h7).getD j 0 ≤ 30 := by
  intro j hj
  unfold sizL
  rcases j with _ | _ | _ | _ | _ | _ | _ | _ | _ | _ | _ | _ | j <;> simp <;> omega
def dasI : List Int := [4, 6, 9, 13, 18]
theorem das_bd : ∀ j, j < 5 → 4 ≤ dasI.getD j 0 ∧ dasI.getD j 0 ≤ 18 := by decide
def entM (ns : List Int) (ws : List (List Nat)) (ik : List Nat) (z d : Nat) (k : Nat) : List Nat × List Nat := (ws.getD k [], stM ik (digM (cellM ns (1 + k)) (List.replicate z ((d : Int) + 4))) d)
theorem rowD_of {x : Int} {z d : Nat} (h1 : 1 ≤ z) (h2 : z ≤ 1000) : RowD (digM x (List.replicate z ((d : Int) + 4))) d := by
  have hl : (digM x (List.replicate z ((d : Int) + 4))).length = z := by rw [digM_len, List.length_replicate]
  have bd : ∀ e ∈ digM x (List.replicate z ((d : Int) + 4)), 0 ≤ e ∧ e < (d : Int) + 4 := fun e he => by
    obtain ⟨i, hi, rfl⟩ := List.getElem_of_mem he
    have q := digM_bd (x := x) (sizes := List.replicate z ((d : Int) + 4)) (fun s hs => by rw [(List.mem_replicate.mp hs).2]; omega) (i := i) (by rw [List.length_replicate]; omega)
    rw [List.getD_eq_getElem?_getD, List.getElem?_eq_getElem hi, List.getD_eq_getElem?_getD, List.getElem?_replicate, if_pos (by omega)] at q
    exact q
  exact ⟨by omega, by omega, fun e he => (bd e he).1, fun e he => (bd e he).2⟩
theorem stk_ok {ns : List Int} {ws : List (List Nat)} {ik mk : List Nat} {z d many : Nat} (hw : goodW ws = true) (h7 : many ≤ 7) (hmk : InksOk mk) (hik : ik.length = 3) (hia : ∀ c ∈ ik, c ∈ alls) (z1 : 1 ≤ z) (z30 : z ≤ 30) : StkOk z mk ((List.range many).map (entM ns ws ik z d)) := by
  unfold goodW at hw
  simp only [Bool.and_eq_true, decide_eq_true_eq] at hw
  obtain ⟨w1, w2, w3⟩ := hw
  rw [List.all_eq_true] at w2
  have hd : ((List.range many).map fun k => ws.getD k []) = ws.take many := by
    refine List.ext_getElem (by simp; omega) fun i h1 h2 => ?_
    simp at h1 h2 ⊢
    rw [List.getElem?_eq_getElem (by omega)]
    rfl
  refine ⟨⟨fun p hp => ?_, fun p hp => ?_, ?_, by simp; omega⟩, hmk, z1, z30, by simp; omega⟩
  · obtain ⟨k, hk, rfl⟩ := List.mem_map.mp hp
    have hk' := List.mem_range.mp hk
    have := w2 (ws.getD k []) (getD_memL (by omega))
    simp only [Bool.and_eq_true, decide_eq_true_eq] at this
    exact ⟨this.1, by show (ws.getD k []).length ≤ 1000; omega⟩
  · obtain ⟨k, hk, rfl⟩ := List.mem_map.mp hp
    have hr := rowD_of (x := cellM ns (1 + k)) (d := d) z1 (by omega : z ≤ 1000)
    have hl : (digM (cellM ns (1 + k)) (List.replicate z ((d : Int) + 4))).length = z := by rw [digM_len, List.length_replicate]
    have q := st_ok hik hia hr (by omega)
    rw [hl] at q
    refine ⟨q, ?_⟩
    have : (stM ik (digM (cellM ns (1 + k)) (List.replicate z ((d : Int) + 4))) d).length = z := by
      unfold stampOk at q
      simp only [Bool.and_eq_true, decide_eq_true_eq] at q
      omega
    show (stM ik _ d).length ≤ 1000
    omega
  · rw [List.map_map]
    show ((List.range many).map fun k => ws.getD k []).Nodup
    rw [hd]
    exact w3.sublist (List.take_sublist _ _)
end
end Mi

set_option maxHeartbeats 4000000
namespace Mi
open PySem PySem.Spec PyProof.Rows L2 Evl
local macro_rules | `(tactic| walk_at "side") => `(tactic| (first | assumption | omega | exact rfl | decide | (simp only [List.length_cons, List.length_nil, List.length_map, List.length_append, List.length_replicate] <;> omega)))
local macro_rules | `(tactic| walk_at "ro") => `(tactic| (first
  | with_reducible exact ro_I0
  | with_reducible exact ro_1018
  | with_reducible exact ro_neC
  | with_reducible exact ro_eqC
  | with_reducible exact ro_neI
  | with_reducible exact ro_eqI
  | with_reducible exact ro_neB
  | with_reducible exact ro_eqB
  | ((with_reducible apply ro_mod); (walk_at "side"))
  | ((with_reducible apply ro_div) <;> (walk_at "side"))
  | ((with_reducible apply ro_divW) <;> (walk_at "side"))
  | with_reducible exact ro_1012
  | with_reducible exact ro_1015
  | ((with_reducible apply ro_mulL) <;> (walk_at "side"))
  | ((with_reducible apply ro_mulR) <;> (walk_at "side"))
  | ((with_reducible apply ro_addC); (walk_at "side"))
  | ((with_reducible apply ro_ixC) <;> (walk_at "side"))
  | ((with_reducible apply ro_ixI) <;> (walk_at "side"))
  | ((with_reducible apply ro_ixIN) <;> (walk_at "side"))
  | ((with_reducible apply ro_ixT2) <;> (walk_at "side"))
  | ((with_reducible apply ro_ixG) <;> (walk_at "side"))
  | ((with_reducible apply ro_eq); exact rfl)
  | ((with_reducible apply ro_ne); exact rfl)
  | with_reducible exact ro_isN
  | with_reducible exact ro_notN
  | with_reducible exact ro_eqL
  | with_reducible exact ro_neL
  | with_reducible exact ro_eqU
  | ((with_reducible apply ro_cat); (walk_at "side"))
  | with_reducible exact ro_inLi
  | with_reducible exact ro_inNi
  | with_reducible exact ro_inUi
  | ((with_reducible apply ro_inL) <;> (walk_at "side"))
  | ((with_reducible apply ro_inN) <;> (walk_at "side"))
  | ((with_reducible apply ro_inU) <;> (walk_at "side"))))
local macro_rules | `(tactic| walk_at "rc") => `(tactic| (first
  | with_reducible exact rc_int
  | with_reducible exact rc_intB
  | with_reducible exact rc_max2
  | ((with_reducible apply rc_lenC); (walk_at "side"))
  | with_reducible exact rc_lenI
  | with_reducible exact rc_lenT
  | with_reducible exact rc_lenIN
  | with_reducible exact rc_lenTN
  | with_reducible exact rc_lenL
  | with_reducible exact rc_lenN
  | with_reducible exact rc_lenU
  | with_reducible exact rc_listL
  | with_reducible exact rc_listU
  | with_reducible exact rc_tupL
  | with_reducible exact rc_tupN
  | ((with_reducible apply rc_isi_int); decide +kernel)
  | ((with_reducible apply rc_isi_str); decide +kernel)
  | ((with_reducible apply rc_isi_bl); decide +kernel)
  | ((with_reducible apply rc_isi_non); decide +kernel)
  | ((with_reducible apply rc_isi_u); decide +kernel)
  | ((with_reducible apply rc_isi_l); decide +kernel)))
local macro_rules | `(tactic| walk_at "er") => `(tactic| (first
  | ((with_reducible apply er_var); (exact rfl); assumption)
  | ((with_reducible apply er_v); exact rfl)
  | with_reducible exact er_c
  | ((with_reducible apply er_pick); (walk_at "er"); (walk_at "er"); (walk_at "er"))
  | ((with_reducible apply er_op); (walk_at "er"); (walk_at "er"); (walk_at "ro"))
  | ((with_reducible apply er_cb); (walk_at "era"); (walk_at "rc"))
  | ((with_reducible apply er_lst'); (walk_at "era"); (exact rfl); (walk_at "side"))
  | ((with_reducible apply er_tup'); (walk_at "era"); (exact rfl); (walk_at "side"))
  | ((with_reducible apply er_notV); (walk_at "er"))
  | ((with_reducible apply er_andV); (walk_at "er"); (intro _; (walk_at "er")))
  | ((with_reducible apply er_orV); (walk_at "er"); (intro _; (walk_at "er")))
  | ((with_reducible apply er_ite); (walk_at "et"); (intro _; (walk_at "er")); (intro _; (walk_at "er")))))
local macro_rules | `(tactic| walk_at "era") => `(tactic| (first
  | with_reducible exact era_nil
  | ((with_reducible apply era_cons); (walk_at "er"); (walk_at "era"))))
local macro_rules | `(tactic| walk_at "et") => `(tactic| (first
  | ((with_reducible apply et_an); (walk_at "et"); (intro _; (walk_at "et")))
  | ((with_reducible apply et_orr); (walk_at "et"); (intro _; (walk_at "et")))
  | ((with_reducible apply et_nt); (walk_at "et"))
  | ((with_reducible apply et1); (walk_at "er"))
  | ((with_reducible apply et2); (walk_at "er"))))

section
variable {P : Program} {w : World} {K : PySem.W.Frag} {mg : Str → Option Value} {base : Heap}
theorem rof_rep {xs : List V} {k : Nat} (h : xs.length * k ≤ 100000) (hk : k ≤ 100000) : Rof K rRep (.n xs) (.v (.int (k : Int))) (.n (List.replicate k xs).flatten) := by
  rintro _ _ G A e ⟨p, rfl, hp⟩ rfl Q q
  exact ⟨p, k, xs, rfl, rfl, e p _ hp, by omega, by omega, by rw [Int.toNat_natCast]; exact sz_of h, fun l hl => q _ (upd G l (.lst (List.replicate k xs).flatten)) _ (by rw [Int.toNat_natCast]; exact Step.new e hl) ⟨l, rfl, upd_same⟩⟩
abbrev sp__law_digitsF (K : PySem.W.Frag) : Sp := spF K (fun a : Int × List Int => a.2.length ≤ 1000 ∧ ∀ s ∈ a.2, 0 < s ∧ s < 1000000) (fun a => [.i a.1, .l (vis a.2)]) fun a => .n (vis (digM a.1 a.2))
theorem has__law_digitsF (T : Txt K mg) (h : At K mg "_law_digits" s__law_digits ["cell", "sizes"]) : Has P w K mg base 1 "_law_digits" ["cell", "sizes"] (sp__law_digitsF K) := by
  refine h.hasF sc__law_digits (fun _ => rfl) fun f cdv Ar outer s G H a vs Q E hr hp hA hv hk => ?_
  obtain ⟨x, sizes⟩ := a
  obtain ⟨hz, hpos⟩ := hp
  replace hz : sizes.length ≤ 1000 := hz
  replace hpos : ∀ s ∈ sizes, 0 < s ∧ s < 1000000 := hpos
  rcases hv with _ | ⟨rfl, _ | ⟨⟨pz, rfl, hZ0⟩, _ | _⟩⟩
  have hZ := ex_l hA hZ0
  have hzz : Is K H (.l (vis sizes)) (.ref pz) := ⟨pz, rfl, hZ⟩
  have sc := sc__law_digits
  refine ⟨_, (pss_cons (ps_set (i := 2) sc.nd rfl (Or.inl rfl) (pe_lst pa_nil))
    (pss_cons (ps_set (i := 3) sc.nd rfl (Or.inl rfl) (pe_callTy cr_int (by rfl) T.b_int (by decide +kernel) (pa_cons (pv 0) pa_nil)))
    (pss_cons (ps_if (pt_cmpR op_ge (pv 3) (pe_op op_pow pe_int pe_int) (nomark _)) (pss_cons (ps_set (i := 3) sc.nd rfl (Or.inl rfl) (pe_op op_sub (pv 3) (pe_op op_pow pe_int pe_int)))
    (pss_cons (ps_for PassesOwn.never rfl (pi_list_k (K := K) (pv 1)) (pg_name (i := 4) sc.nd rfl (Or.inl rfl)) (pss_cons (ps_expr (pe_bm_k (K := K) PySem.F.plainAttrs_list PySem.F.slot_list_append PySem.F.type_list_append mt_append (pv 2) (pa_cons (pe_op op_mod (pe_callTy cr_int (by rfl) T.b_int (by decide +kernel) (pa_cons (pv 3) pa_nil)) (pv 4)) pa_nil)))
    (pss_one (ps_set (i := 3) sc.nd rfl (Or.inl rfl) (pe_op op_fdiv (pe_callTy cr_int (by rfl) T.b_int (by decide +kernel) (pa_cons (pv 3) pa_nil)) (pv 4))))))
    (pss_one (ps_ret (pv 2))))) pss_nil)
    (pss_cons (ps_set (i := 5) sc.nd rfl (Or.inl rfl) (pe_op op_mod (pe_callTy cr_int (by rfl) T.b_int (by decide +kernel) (pa_cons (pv 3) pa_nil)) pe_int))
    (pss_cons (ps_for PassesOwn.never rfl (pi_range1 (by rfl) T.b_range (pa_cons (pe_callB (cr_len_k (K := K)) (by rfl) T.b_len (by decide +kernel) (pa_cons (pv 1) pa_nil)) pa_nil)) (pg_name (i := 6) sc.nd rfl (Or.inl rfl)) (pss_cons (ps_set (i := 5) sc.nd rfl (Or.inl rfl) (pe_op op_mod (pe_callTy cr_int (by rfl) T.b_int (by decide +kernel) (pa_cons (pe_op op_add (pe_op op_add (pe_op op_mul (pv 5) pe_int) (pe_op op_mul pe_int (pv 6))) pe_int) pa_nil)) pe_int))
    (pss_cons (ps_set (i := 7) sc.nd rfl (Or.inl rfl) (pe_op op_mod (pe_callTy cr_int (by rfl) T.b_int (by decide +kernel) (pa_cons (pe_op op_mul (pv 5) (pe_op op_add (pe_op op_fdiv (pv 5) pe_int) pe_int)) pa_nil)) pe_int))
    (pss_one (ps_expr (pe_bm_k (K := K) PySem.F.plainAttrs_list PySem.F.slot_list_append PySem.F.type_list_append mt_append (pv 2) (pa_cons (pe_op op_mod (pe_op op_fdiv (pv 7) pe_int) (pe_ix (ix_list_k (K := K)) (pv 1) (pv 6) (fun _ _ => rfl))) pa_nil)))))))
    (pss_one (ps_ret (pv 2)))))))), ?_⟩
  refine a_new fun o H1 ho e1 h1 => ?_
  refine' a_setv (K := K) (x := .int x) ?g1 ?g2
  case g1 => walk_at "er"
  intro H2 e2
  have h2 := e2 o _ h1
  refine' a_when (K := K) ?g3 ?g4 ?g5
  case g3 => walk_at "et"
  case g4 =>
    intro hb H3 e3
    have hb' : 1000000000000000000 ≤ x := by simpa using hb
    refine' a_setv (K := K) ?g6 ?g7
    case g6 => walk_at "er"
    intro H4 e4
    have h4 := e4 o _ (e3 o _ h2)
    have E4 : Ex H H4 := ((e1.trans e2).trans e3).trans e4
    refine b_forA (K := K) (a := pz) (xs := vis sizes) (er_v rfl) (ex_l E4 hZ) (fun i σ' H' => ∃ y, σ' = [some (.int x), some (.ref pz), some (.ref o), some (.int (rsM (x - 1000000000000000000) sizes i)), y, none, none, none] ∧ Ex H H' ∧ H' o = some (.lst (vis ((sizes.zipIdx.take i).map fun p => rsM (x - 1000000000000000000) sizes p.2 % p.1)))) (fun H5 e5 => ⟨none, rfl, E4.trans e5, e5 o _ h4⟩) (fun i σ' H' _ ⟨_, _, e, _⟩ => ex_l e hZ) ?_ ?_
    · rintro i y0 σ' H' hx ⟨y, rfl, e, hO⟩
      obtain ⟨n, hn, rfl⟩ := vis_at hx
      have hn2 := hpos n (List.mem_of_getElem? hn)
      have hn3 : 0 < n := hn2.1
      have hi : i < sizes.length := (List.getElem?_eq_some_iff.mp hn).1
      refine' b_app (K := K) hO (er_v rfl) ?g8 (by rw [List.length_map, List.length_map, List.length_take]; omega) ?g9
      case g8 => walk_at "er"
      intro H5 e5
      have E5 : Ex H (upd H5 o (.lst (vis ((sizes.zipIdx.take i).map fun p => rsM (x - 1000000000000000000) sizes p.2 % p.1) ++ [.int (rsM (x - 1000000000000000000) sizes i % n)]))) := Ex.mut (e.trans e5) ho
      refine' a_setv1 (K := K) ?g10 ?g11
      case g10 => walk_at "er"
      intro H6 e6
      refine ⟨some (.int n), ?_, E5.trans e6, ?_⟩
      · rw [rsM_next hn]
        rfl
      · rw [e6 o _ upd_same, map_take_next (zipIdx_at hn), vis_app]
    · rintro σ' H' ⟨y, rfl, e, hO⟩
      refine ⟨.ref o, rfl, hk _ (upd G o (.lst (vis (digM x sizes)))) H' (Step.seal (Step.on hA e) ho (ex_out hA ho) ?_) ⟨o, rfl, upd_same⟩⟩
      rw [hO, List.length_map, List.take_of_length_le (by rw [List.length_zipIdx]; exact Nat.le_refl _)]
      unfold digM
      rw [if_pos hb']
      rfl
  case g5 =>
    intro hb H3 e3
    have hb' : ¬ 1000000000000000000 ≤ x := by simpa using hb
    refine' a_setv (K := K) ?g12 ?g13
    case g12 => walk_at "er"
    intro H4 e4
    have h4 := e4 o _ (e3 o _ h2)
    have E4 : Ex H H4 := ((e1.trans e2).trans e3).trans e4
    have hz4 := hzz.mono E4
    refine b_forR1 (K := K) (n := sizes.length) ?_ (by omega) (fun i σ' H' => ∃ y1 y2, σ' = [some (.int x), some (.ref pz), some (.ref o), some (.int x), none, some (.int (sdM (x % 2147483629) i)), y1, y2] ∧ Ex H H' ∧ H' o = some (.lst (vis ((sizes.zipIdx.take i).map fun p => twM (sdM (x % 2147483629) (p.2 + 1)) / 19 % p.1)))) (fun H5 e5 => ⟨none, none, rfl, E4.trans e5, e5 o _ h4⟩) ?_ ?_
    · walk_at "era"
    · rintro i σ' H' hi ⟨y1, y2, rfl, e, hO⟩
      have hn : sizes[i]? = some sizes[i] := List.getElem?_eq_getElem hi
      have hn2 := hpos sizes[i] (List.getElem_mem hi)
      have hg : sizes.getD i 0 = sizes[i] := by rw [List.getD_eq_getElem?_getD, hn]; rfl
      have hn3 : 0 < sizes.getD ((i : Nat) : Int).toNat 0 := by rw [Int.toNat_natCast, hg]; exact hn2.1
      have hzi := hzz.mono e
      generalize hsd : sdM (x % 2147483629) i = sd
      refine' a_setv (K := K) ?g14 ?g15
      case g14 => walk_at "er"
      intro H5 e5
      have hsd1 : sdM (x % 2147483629) (i + 1) = (sd * 48271 + 974711 * (i : Int) + 12345) % 2147483647 := by rw [← hsd]; rfl
      have hb1 : 0 ≤ (sd * 48271 + 974711 * (i : Int) + 12345) % 2147483647 := Int.emod_nonneg _ (by decide)
      have hb2 : (sd * 48271 + 974711 * (i : Int) + 12345) % 2147483647 < 2147483647 := Int.emod_lt_of_pos _ (by decide)
      generalize hsd2 : (sd * 48271 + 974711 * (i : Int) + 12345) % 2147483647 = sd2 at hsd1 hb1 hb2
      refine' a_setv (K := K) ?g16 ?g17
      case g16 => walk_at "er"
      intro H6 e6
      replace hzi := (hzi.mono e5).mono e6
      refine' a_app (K := K) (e6 o _ (e5 o _ hO)) (er_v rfl) ?g18 (by rw [List.length_map, List.length_map, List.length_take]; omega) ?g19
      case g18 => walk_at "er"
      intro H7 e7
      refine ⟨some (.int i), some (.int (twM sd2)), ?_, Ex.mut (((e.trans e5).trans e6).trans e7) ho, ?_⟩
      · rw [hsd1]
        rfl
      · rw [upd_same, map_take_next (zipIdx_at hn), vis_app, hsd1, Int.toNat_natCast, hg]
        rfl
    · rintro σ' H' ⟨y1, y2, rfl, e, hO⟩
      refine ⟨.ref o, rfl, hk _ (upd G o (.lst (vis (digM x sizes)))) H' (Step.seal (Step.on hA e) ho (ex_out hA ho) ?_) ⟨o, rfl, upd_same⟩⟩
      rw [hO, List.take_of_length_le (by rw [List.length_zipIdx]; exact Nat.le_refl _)]
      unfold digM
      rw [if_neg hb']
      rfl

section
variable {σ : L2.St} {G : Hp} {te : TE}
theorem ef_slL {ta tb : TE} {xs : List V} {i j : Int} (h : Ef K te σ G (.l xs)) (h1 : Er K ta σ G (.i i)) (h2 : Er K tb σ G (.i j)) : Ef K (tSl (rSlL K) te (tPart ta) (tPart tb)) σ G (.n (cutV xs (some i) (some j))) := fun G1 A1 e1 e2 _ q =>
  h G1 A1 e1 e2 _ fun v G2 A2 s2 ⟨p, ep, hp⟩ => eo_of h1 A2 ((e1.trans s2.g).trans s2.v) _ fun A3 e3 => eo_of h2 A3 (((e1.trans s2.g).trans s2.v).trans e3) _ fun A4 e4 => by
    subst ep
    have s4 := s2.trans (Step.on s2.v (e3.trans e4))
    exact ⟨p, xs, rfl, ex_l s4.v hp, fun l hl => q _ (upd G2 l (.lst (cutV xs (some i) (some j)))) _ (s4.trans (Step.new s4.v hl)) ⟨l, rfl, upd_same⟩⟩
end
theorem b01 (b : Bool) : 0 ≤ (if b = true then (1 : Int) else 0) ∧ (if b = true then (1 : Int) else 0) ≤ 1 := by cases b <;> decide
abbrev s__law_stock : Stmt := topS 44
theorem sc__law_stock : FnScope ["script", "at", "upto", "head", "words", "menu", "many", "size", "dashes", "marks", "inks", "entries", "k", "digits"] ["script", "at", "upto"] (defScope s__law_stock) := ⟨rfl, rfl, rfl, by decide +kernel, rfl, by decide +kernel, by decide +kernel⟩

abbrev sp__law_stock (K : PySem.W.Frag) : Sp := spR K (fun ns : List Int => ns.length ≤ 63) (fun ns => [.l (vis ns), .i 0, .i 7]) fun _ => drawnD K
theorem has__law_stock (T : Txt K mg) (h : At K mg "_law_stock" s__law_stock ["script", "at", "upto"]) (C__law_cell : Has P w K mg base 1 "_law_cell" ["script", "k"] (sp__law_cell K)) (C__law_digits : Has P w K mg base 1 "_law_digits" ["cell", "sizes"] (sp__law_digitsF K)) (C__law_words : Has P w K mg base 1 "_law_words" ["row"] (sp__law_words K)) (C__law_marks : Has P w K mg base 1 "_law_marks" ["row"] (sp__law_marks K)) (C__law_stamp : Has P w K mg base 1 "_law_stamp" ["marks", "row", "dashes"] (sp__law_stamp K)) : Has P w K mg base 2 "_law_stock" ["script", "at", "upto"] (sp__law_stock K) := by
  refine h.hasR sc__law_stock (fun _ => rfl) fun f cdv A outer s H ns vs Q E hr hp hv hk => ?_
  replace hp : ns.length ≤ 63 := hp
  rcases hv with _ | ⟨hs, _ | ⟨rfl, _ | ⟨rfl, _ | _⟩⟩⟩
  rename_i x
  replace hs : Is K H (.l (vis ns)) x := hs
  have sc := sc__law_stock
  have hl : (digM (cellM ns 0) szH).length = 8 := by rw [digM_len]; rfl
  have hb : ∀ i, i < 8 → 0 ≤ (digM (cellM ns 0) szH).getD i 0 ∧ (digM (cellM ns 0) szH).getD i 0 < szH.getD i 0 := fun i hi => digM_bd szH_pos hi
  have wl : (digM (cellM ns 8) szW).length = 4 := by rw [digM_len]; rfl
  have wb : ∀ i, i < 4 → 0 ≤ (digM (cellM ns 8) szW).getD i 0 ∧ (digM (cellM ns 8) szW).getD i 0 < szW.getD i 0 := fun i hi => digM_bd szW_pos hi
  refine ⟨_, (pss_cons (ps_set (i := 3) sc.nd rfl (Or.inl rfl) (pe_callH C__law_digits (hr.mono (by decide)) (pa_cons (pe_callH C__law_cell (hr.mono (by decide)) (pa_cons (pv 0) (pa_cons (pv 1) pa_nil))) (pa_cons (pe_lst (pa_cons pe_int (pa_cons pe_int (pa_cons pe_int (pa_cons pe_int (pa_cons pe_int (pa_cons pe_int (pa_cons pe_int (pa_cons pe_int pa_nil))))))))) pa_nil))))
    (pss_cons (ps_set (i := 4) sc.nd rfl (Or.inl rfl) (pe_callH C__law_words (hr.mono (by decide)) (pa_cons (pe_callH C__law_digits (hr.mono (by decide)) (pa_cons (pe_callH C__law_cell (hr.mono (by decide)) (pa_cons (pv 0) (pa_cons (pe_op op_add (pv 1) pe_int) pa_nil))) (pa_cons (pe_lst (pa_cons pe_int (pa_cons pe_int (pa_cons pe_int (pa_cons pe_int pa_nil))))) pa_nil))) pa_nil)))
    (pss_cons (ps_set (i := 5) sc.nd rfl (Or.inl rfl) (pe_lst (pa_cons pe_int (pa_cons pe_int (pa_cons pe_int (pa_cons pe_int (pa_cons pe_int (pa_cons pe_int (pa_cons pe_int (pa_cons pe_int (pa_cons pe_int (pa_cons pe_int (pa_cons pe_int (pa_cons pe_int (pa_cons pe_int (pa_cons pe_int (pa_cons pe_int (pa_cons pe_int (pa_cons pe_int (pa_cons pe_int (pa_cons pe_int (pa_cons pe_int (pa_cons pe_int (pa_cons pe_int (pa_cons pe_int (pa_cons pe_int (pa_cons pe_int (pa_cons pe_int (pa_cons pe_int (pa_cons pe_int (pa_cons pe_int (pa_cons pe_int (pa_cons pe_int (pa_cons pe_int pa_nil))))))))))))))))))))))))))))))))))
    (pss_cons (ps_set (i := 6) sc.nd rfl (Or.inl rfl) (pe_callB cr_min2' (by rfl) T.b_min (by decide +kernel) (pa_cons (pv 2) (pa_cons (pe_ix (ix_list_k (K := K)) (pv 5) (pe_ix (ix_list_k (K := K)) (pv 3) pe_int (fun _ _ => rfl)) (fun _ _ => rfl)) pa_nil))))
    (pss_cons (ps_set (i := 7) sc.nd rfl (Or.inl rfl) (pe_ix (ix_list_k (K := K)) (pe_lst (pa_cons pe_int (pa_cons pe_int (pa_cons pe_int (pa_cons pe_int (pa_cons pe_int (pa_cons pe_int (pa_cons pe_int (pa_cons pe_int (pa_cons (pe_op op_add pe_int (pe_ix (ix_list_k (K := K)) (pv 3) pe_int (fun _ _ => rfl))) (pa_cons pe_int (pa_cons (pe_op op_add pe_int (pe_ix (ix_list_k (K := K)) (pv 3) pe_int (fun _ _ => rfl))) (pa_cons (pe_op op_add pe_int (pe_ix (ix_list_k (K := K)) (pv 3) pe_int (fun _ _ => rfl))) pa_nil))))))))))))) (pe_ix (ix_list_k (K := K)) (pv 3) pe_int (fun _ _ => rfl)) (fun _ _ => rfl)))
    (pss_cons (ps_if (pt_cmpR op_gt (pv 6) pe_int (nomark _)) (pss_one (ps_set (i := 7) sc.nd rfl (Or.inl rfl) (pe_callB cr_max2 (by rfl) T.b_max (by decide +kernel) (pa_cons (pv 7) (pa_cons pe_int pa_nil))))) pss_nil)
    (pss_cons (ps_set (i := 8) sc.nd rfl (Or.inl rfl) (pe_ix (ix_list_k (K := K)) (pe_lst (pa_cons pe_int (pa_cons pe_int (pa_cons pe_int (pa_cons pe_int (pa_cons pe_int pa_nil)))))) (pe_op op_add (pe_op op_add (pe_op op_add (pe_callTy cr_int (by rfl) T.b_int (by decide +kernel) (pa_cons (pe_cmpR op_gt (pv 7) pe_int (nomark _)) pa_nil)) (pe_callTy cr_int (by rfl) T.b_int (by decide +kernel) (pa_cons (pe_cmpR op_gt (pv 7) pe_int (nomark _)) pa_nil))) (pe_callTy cr_int (by rfl) T.b_int (by decide +kernel) (pa_cons (pe_cmpR op_gt (pv 7) pe_int (nomark _)) pa_nil))) (pe_callTy cr_int (by rfl) T.b_int (by decide +kernel) (pa_cons (pe_cmpR op_gt (pv 7) pe_int (nomark _)) pa_nil))) (fun _ _ => rfl)))
    (pss_cons (ps_set (i := 9) sc.nd rfl (Or.inl rfl) (pe_callH C__law_marks (hr.mono (by decide)) (pa_cons (pe_slice (sl_list_k (K := K)) (pv 3) (po_some pe_int) po_none) pa_nil)))
    (pss_cons (ps_set (i := 10) sc.nd rfl (Or.inl rfl) (pe_op op_addS (pe_slice sl_str (pv 9) po_none (po_some pe_int)) (pe_ix ix_str (pv 9) (pe_op op_mul pe_int (pe_ix (ix_list_k (K := K)) (pv 3) pe_int (fun _ _ => rfl))) (fun _ _ => rfl))))
    (pss_cons (ps_set (i := 11) sc.nd rfl (Or.inl rfl) (pe_lst pa_nil))
    (pss_cons (ps_for PassesOwn.never rfl (pi_range1 (by rfl) T.b_range (pa_cons (pv 6) pa_nil)) (pg_name (i := 12) sc.nd rfl (Or.inl rfl)) (pss_cons (ps_set (i := 13) sc.nd rfl (Or.inl rfl) (pe_callH C__law_digits (hr.mono (by decide)) (pa_cons (pe_callH C__law_cell (hr.mono (by decide)) (pa_cons (pv 0) (pa_cons (pe_op op_add (pe_op op_add (pv 1) pe_int) (pv 12)) pa_nil))) (pa_cons (pe_op op_rep (pe_lst (pa_cons (pe_op op_add (pv 8) pe_int) pa_nil)) (pv 7)) pa_nil))))
    (pss_one (ps_expr (pe_bm_k (K := K) PySem.F.plainAttrs_list PySem.F.slot_list_append PySem.F.type_list_append mt_append (pv 11) (pa_cons (pe_lst (pa_cons (pe_ix (ix_list_k (K := K)) (pv 4) (pv 12) (fun _ _ => rfl)) (pa_cons (pe_callH C__law_stamp (hr.mono (by decide)) (pa_cons (pv 10) (pa_cons (pv 13) (pa_cons (pv 8) pa_nil)))) pa_nil))) pa_nil))))))
    (pss_one (ps_ret (pe_lst (pa_cons (pv 7) (pa_cons (pv 9) (pa_cons (pv 11) (pa_cons (pe_slice (sl_list_k (K := K)) (pv 4) (po_some (pv 6)) (po_some (pe_op op_add (pv 6) pe_int))) pa_nil)))))))))))))))))), ?_⟩
  refine a_asg (K := K) (d := .n (vis (digM (cellM ns 0) szH))) (er_callF (K := K) (cellM ns 0, szH) (era_cons (er_call (K := K) (ns, 0) (era_cons (er_var rfl hs) (era_cons (er_v rfl) era_nil)) rfl ⟨hp, Nat.zero_le _⟩) (era_cons (Er.n2l (er_lst (vs := vis szH) (by repeat (first | exact era_nil | refine era_cons er_c ?_)) (by decide))) era_nil)) rfl szH_ok) fun vh H1 e1 hh1 => ?_
  generalize digM (cellM ns 0) szH = hd at hl hb hh1
  have hd0 : 0 ≤ hd.getD 0 0 ∧ hd.getD 0 0 < 12 := hb 0 (by decide)
  have hd1 : 0 ≤ hd.getD 1 0 ∧ hd.getD 1 0 < 32 := hb 1 (by decide)
  have hd2 : 0 ≤ hd.getD 2 0 ∧ hd.getD 2 0 < 2 := hb 2 (by decide)
  have hd4 : 0 ≤ hd.getD 4 0 ∧ hd.getD 4 0 < 27 := hb 4 (by decide)
  have hd5 : 0 ≤ hd.getD 5 0 ∧ hd.getD 5 0 < 26 := hb 5 (by decide)
  have hd6 : 0 ≤ hd.getD 6 0 ∧ hd.getD 6 0 < 25 := hb 6 (by decide)
  have hd7 : 0 ≤ hd.getD 7 0 ∧ hd.getD 7 0 < 25 := hb 7 (by decide)
  have athd : ∀ {te : TE} {σ : L2.St} {H : Hp} {j : Nat}, Er K te σ H (.n (vis hd)) → j < 8 → Er K (tOp (rIxL K) te (tC (.int (j : Int)))) σ H (.i (hd.getD j 0)) := fun {te σ H j} q hj => er_numN q er_c (by omega)
  -- the words
  have hrow := row4 wl fun j hj => (wb j hj).1
  have w1 : 0 ≤ (digM (cellM ns 8) szW).getD 1 0 ∧ (digM (cellM ns 8) szW).getD 1 0 < 10 := wb 1 (by decide)
  have w2 : 0 ≤ (digM (cellM ns 8) szW).getD 2 0 ∧ (digM (cellM ns 8) szW).getD 2 0 < 8 := wb 2 (by decide)
  have w3 : 0 ≤ (digM (cellM ns 8) szW).getD 3 0 ∧ (digM (cellM ns 8) szW).getD 3 0 < 8 := wb 3 (by decide)
  obtain ⟨wr, hwr⟩ : ∃ wr, digM (cellM ns 8) szW = wr := ⟨_, rfl⟩
  rw [hwr] at w1 w2 w3 hrow
  have hgood := words_good (r0 := (wr.getD 0 0).toNat) (r1 := (wr.getD 1 0).toNat) (r2 := (wr.getD 2 0).toNat) (r3 := (wr.getD 3 0).toNat) (by omega) (by omega) (by omega)
  have hs1 := hs.mono e1
  refine a_asg (K := K) (d := .n (vsl (wordsW (wr.getD 0 0).toNat (wr.getD 1 0).toNat (wr.getD 2 0).toNat (wr.getD 3 0).toNat))) (er_call (K := K) ((wr.getD 0 0).toNat, (wr.getD 1 0).toNat, (wr.getD 2 0).toNat, (wr.getD 3 0).toNat) (era_cons (Er.n2l (Er.to (er_callF (K := K) (cellM ns 8, szW) (era_cons (er_call (K := K) (ns, 8) (era_cons (er_var rfl hs1) (era_cons (er_op (er_v rfl) er_c ro_I0) era_nil)) rfl ⟨hp, by show 8 ≤ 1000; decide⟩) (era_cons (Er.n2l (er_lst (vs := vis szW) (by repeat (first | exact era_nil | refine era_cons er_c ?_)) (by decide))) era_nil)) rfl szW_ok) (by show Dd.n (vis (digM (cellM ns 8) szW)) = _; rw [hwr, ← hrow]))) era_nil) rfl (by show (wr.getD 2 0).toNat < 8; omega)) fun vw H2 e2 hw2 => ?_
  generalize wordsW (wr.getD 0 0).toNat (wr.getD 1 0).toNat (wr.getD 2 0).toNat (wr.getD 3 0).toNat = ws at hgood hw2
  have hwl : ws.length = 10 := by
    unfold goodW at hgood
    simp only [Bool.and_eq_true, decide_eq_true_eq] at hgood
    exact hgood.1
  refine a_asg (K := K) (d := .n (vis manI)) (er_lst (vs := vis manI) (by repeat (first | exact era_nil | refine era_cons er_c ?_)) (by decide)) fun vm H3 e3 hm3 => ?_
  have hh3 := hh1.mono (e2.trans e3)
  obtain ⟨m1, m2⟩ := man_eq (hd.getD 1 0).toNat (by omega)
  obtain ⟨many, hmany⟩ : ∃ many, manL.getD (hd.getD 1 0).toNat 0 = many := ⟨_, rfl⟩
  rw [hmany] at m1 m2
  refine a_setv (K := K) (x := .int (many : Int)) (Er.to (er_cb (era_cons (er_v rfl) (era_cons (Er.to (er_op (er_var rfl hm3) (athd (j := 1) (er_var rfl hh3) (by decide)) (ro_ixIN hd1.1 (by show _ < ((32 : Nat) : Int); exact hd1.2))) (congrArg Dd.i m1)) era_nil)) rc_min2) (congrArg Dd.i (by split <;> omega))) fun H4 e4 => ?_
  have hh4 := hh3.mono e4
  obtain ⟨s1, s2⟩ := siz_bd hd7.1 hd7.2 (hd.getD 0 0).toNat (by omega)
  obtain ⟨z0, hz0⟩ : ∃ z0, (sizL (hd.getD 7 0)).getD (hd.getD 0 0).toNat 0 = z0 := ⟨_, rfl⟩
  rw [hz0] at s1 s2
  refine a_setv (K := K) (x := .int z0) (Er.to (er_op (er_lst (vs := vis (sizL (hd.getD 7 0))) (by repeat (first | exact era_nil | refine era_cons er_c ?_ | refine era_cons (er_op er_c (athd (j := 7) (er_var rfl hh4) (by decide)) ro_I0) ?_)) (by show (12 : Nat) ≤ 100000; decide)) (athd (j := 0) (er_var rfl hh4) (by decide)) (ro_ixIN hd0.1 (by show _ < ((12 : Nat) : Int); exact hd0.2))) (congrArg Dd.i hz0)) fun H5 e5 => ?_
  obtain ⟨z, hz, z1, z30⟩ : ∃ z : Nat, (if 5 < many then (if (3 : Int) > z0 then 3 else z0) else z0) = (z : Int) ∧ 1 ≤ z ∧ z ≤ 30 := by
    refine ⟨(if 5 < many then (if (3 : Int) > z0 then 3 else z0) else z0).toNat, ?_, ?_, ?_⟩ <;> split <;> (try split) <;> omega
  have hz5 : 5 < many → (if (3 : Int) > z0 then 3 else z0) = (z : Int) := fun q => by
    rw [if_pos q] at hz
    exact hz
  refine a_ifAsg (K := K) (x := .int (z : Int)) (b := decide ((5 : Int) < (many : Int))) (et1 (er_op (er_v rfl) er_c ro_I0)) (fun hb' => Er.to (er_cb (era_cons (er_v rfl) (era_cons er_c era_nil)) rc_max2) (congrArg Dd.i (hz5 (by have := of_decide_eq_true hb'; omega)))) (fun hb' => by rw [← hz, if_neg (by have := of_decide_eq_false hb'; omega)]; rfl) fun H6 e6 => ?_
  have b1 := b01 (decide ((5 : Int) < (z : Int)))
  have b2 := b01 (decide ((8 : Int) < (z : Int)))
  have b3 := b01 (decide ((14 : Int) < (z : Int)))
  have b4 := b01 (decide ((21 : Int) < (z : Int)))
  obtain ⟨ix, hix⟩ : ∃ ix, ((if decide ((5 : Int) < (z : Int)) = true then (1 : Int) else 0) + (if decide ((8 : Int) < (z : Int)) = true then (1 : Int) else 0) + (if decide ((14 : Int) < (z : Int)) = true then (1 : Int) else 0) + (if decide ((21 : Int) < (z : Int)) = true then (1 : Int) else 0)) = ix := ⟨_, rfl⟩
  have hix0 : 0 ≤ ix ∧ ix < 5 := by omega
  obtain ⟨d1, d2⟩ := das_bd ix.toNat (by omega)
  obtain ⟨d, hd'⟩ : ∃ d : Nat, dasI.getD ix.toNat 0 = (d : Int) := ⟨(dasI.getD ix.toNat 0).toNat, by omega⟩
  rw [hd'] at d1 d2
  refine a_setv (K := K) (x := .int (d : Int)) (Er.to (er_op (d2 := .i ix) (er_lst (vs := vis dasI) (by repeat (first | exact era_nil | refine era_cons er_c ?_)) (by decide)) (Er.to (er_op (er_op (er_op (er_cb (era_cons (er_op (er_v rfl) er_c ro_I0) era_nil) rc_intB) (er_cb (era_cons (er_op (er_v rfl) er_c ro_I0) era_nil) rc_intB) ro_I0) (er_cb (era_cons (er_op (er_v rfl) er_c ro_I0) era_nil) rc_intB) ro_I0) (er_cb (era_cons (er_op (er_v rfl) er_c ro_I0) era_nil) rc_intB) ro_I0) (congrArg Dd.i hix)) (ro_ixIN hix0.1 (by show _ < ((5 : Nat) : Int); exact hix0.2))) (congrArg Dd.i hd')) fun H7 e7 => ?_
  have hh7 := hh4.mono ((e5.trans e6).trans e7)
  have dr : ∀ j, (hd.drop 3).getD j 0 = hd.getD (3 + j) 0 := fun j => by rw [List.getD_eq_getElem?_getD, List.getD_eq_getElem?_getD, List.getElem?_drop]
  have hik0 : InkOk (hd.drop 3) := ⟨by rw [List.length_drop]; omega, by rw [List.length_drop]; omega, by rw [dr]; exact hd4.1, by rw [dr]; exact hd4.2⟩
  have hmk : InksOk (inksM (hd.drop 3)) := inksM_ok hik0 (by rw [dr]; exact hd5) (by rw [dr]; exact hd6)
  refine a_setv (K := K) (x := .str (S (inksM (hd.drop 3)))) (er_call (K := K) (hd.drop 3) (era_cons (Er.n2l (Er.to (er_cutFrom (n := 3) (Er.n2l (er_var rfl hh7)) er_c) (by rw [vis, vis, List.map_drop]))) era_nil) rfl hik0) fun H8 e8 => ?_
  have hh8 := hh7.mono e8
  generalize inksM (hd.drop 3) = mk at hmk
  have hml := hmk.len
  obtain ⟨ik, hik⟩ : ∃ ik, mk.take 2 ++ [mk.getD (2 * hd.getD 2 0).toNat 0] = ik := ⟨_, rfl⟩
  have ikl : ik.length = 3 := by rw [← hik, List.length_append, List.length_take]; simp; omega
  have ika : ∀ c ∈ ik, c ∈ alls := fun c hc => by
    rw [← hik] at hc
    rcases List.mem_append.mp hc with hc | hc
    · exact hmk.mem c (List.mem_of_mem_take hc)
    · rw [List.mem_singleton.mp hc]
      exact hmk.mem _ (getD_memL (by omega))
  refine a_setv (K := K) (x := .str (S ik)) (Er.to (er_op (K := K) (d1 := .s (S (mk.take 2))) (d2 := .s (S [mk.getD (2 * hd.getD 2 0).toNat 0])) (er_slTo (n := 2) (er_v rfl) (by omega) er_c) (er_op (d1 := .s (S mk)) (d2 := .i (2 * hd.getD 2 0)) (er_v rfl) (er_op er_c (athd (j := 2) (er_var rfl hh8) (by decide)) (ro_mulL (by decide) (by decide))) (ro_ixC (by omega) (by omega) (by omega))) (ro_addC (by simp; omega))) (by rw [hik])) fun H9 e9 => ?_
  have E9 : Ex H1 H9 := ((((((e2.trans e3).trans e4).trans e5).trans e6).trans e7).trans e8).trans e9
  have hw9 := hw2.mono ((((((e3.trans e4).trans e5).trans e6).trans e7).trans e8).trans e9)
  have hs9 := hs1.mono E9
  have EH : Ex H H9 := e1.trans E9
  have hok := stk_ok (ns := ns) (d := d) hgood m2 hmk ikl ika z1 z30
  refine a_new fun o H10 ho1 e10 h10 => ?_
  refine b_for (K := K) (G := H9) (ds := (List.range many).map fun i : Nat => Dd.i (i : Int)) (if_range (n := many) (era_cons (er_v rfl) era_nil) (by omega)) e10 (fun i σ' G' A' => ∃ y12 y13 us, σ' = [some x, some (.int 0), some (.int 7), some vh, some vw, some vm, some (.int (many : Int)), some (.int (z : Int)), some (.int (d : Int)), some (.str (S mk)), some (.str (S ik)), some (.ref o), y12, y13] ∧ Ex H9 A' ∧ G' o = none ∧ A' o = some (.lst us) ∧ IsE K G' (stD (((List.range many).map (entM ns ws ik z d)).take i)) us) (fun G1 A1 s1 => ⟨none, none, [], rfl, e10.trans s1.a, s1.f o (by rw [h10]; simp) ho1, s1.a o _ h10, rfl⟩) ?_ ?_
  · rintro G1 eg i dd v σ' G' A' G2 A2 hdd ⟨y12, y13, us, rfl, ea, go, hu, hE⟩ e3' e4' s2 hv
    have hi : i < many := by
      have := (List.getElem?_eq_some_iff.mp hdd).1
      simpa using this
    rw [List.getElem?_map, List.getElem?_range hi] at hdd
    obtain rfl := Option.some.inj hdd
    obtain rfl : v = V.int (i : Int) := hv
    have go2 := s2.f o (by rw [hu]; simp) go
    have hu2 := s2.a o _ hu
    have eG2 : Ex H9 G2 := (eg.trans e3').trans s2.g
    have eA2 : Ex H9 A2 := ea.trans s2.a
    have hrd := rowD_of (x := cellM ns (1 + i)) (d := d) z1 (by omega : z ≤ 1000)
    refine s_set (K := K) (G := G2) (d := .n (vis (digM (cellM ns (1 + i)) (List.replicate z ((d : Int) + 4))))) (ef_call (cellM ns (1 + i), List.replicate z ((d : Int) + 4)) (efa_cons (ef_flat (er_call (K := K) (ns, 1 + i) (era_cons (er_var rfl (hs9.mono eG2)) (era_cons (Er.to (er_op (er_op (er_v rfl) er_c ro_I0) (er_v rfl) ro_I0) (congrArg Dd.i (show (0 : Int) + 1 + (i : Int) = ((1 + i : Nat) : Int) by omega))) era_nil)) rfl ⟨hp, by show 1 + i ≤ 1000; omega⟩)) (efa_cons (Ef.as (Ef.to (ef_op (ef_lstn (vs := [.int ((d : Int) + 4)]) (era_cons (er_op (er_v rfl) er_c ro_I0) era_nil) (by simp)) (ef_flat (er_v rfl)) (rof_rep (by simp; omega) (by omega))) (d' := .n (vis (List.replicate z ((d : Int) + 4)))) (by rw [vis, List.map_replicate, List.flatten_replicate_singleton])) fun _ _ z => z.n2l) efa_nil)) rfl ⟨by show (List.replicate z ((d : Int) + 4)).length ≤ 1000; rw [List.length_replicate]; omega, fun s hs => by rw [(List.mem_replicate.mp hs).2]; omega⟩) s2.v fun v13 G3 A3 s3 i13 => ?_
    have go3 := s3.f o (by rw [hu2]; simp) go2
    have hu3 := s3.a o _ hu2
    have eG3 : Ex H9 G3 := eG2.trans s3.g
    refine s_app (K := K) (G := G3) (d := eD (entM ns ws ik z d i)) hu3 go3 s3.v (er_v rfl) (Ef.as (ef_N (efa_cons (ef_flat (Er.to (er_op (d2 := .i (i : Int)) (er_var rfl (hw9.mono eG3)) (er_v rfl) (ro_ixSN (by omega) (by rw [hwl]; omega))) (by rw [Int.toNat_natCast]; rfl))) (efa_cons (ef_flat (er_call (K := K) (ik, digM (cellM ns (1 + i)) (List.replicate z ((d : Int) + 4)), d) (era_cons (er_v rfl) (era_cons (Er.n2l (er_var rfl i13)) (era_cons (er_v rfl) era_nil))) rfl ⟨ikl, hrd, by show d ≤ 100; omega⟩)) efa_nil)) (by simp)) fun _ _ z => z.N2L) (by rw [← isE_len hE, stD_len, List.length_take]; simp; omega) fun w4 G4 A4 s4 z4 go4 hu4 => ?_
    refine ⟨G4, ⟨some (.int (i : Int)), some v13, us ++ [w4], rfl, Ex.mut ((eA2.trans s3.a).trans s4.a) ho1, go4, upd_same, ?_⟩, ((e3'.trans s2.g).trans s3.g).trans s4.g, s4.v.mut go4⟩
    have hx : ((List.range many).map (entM ns ws ik z d))[i]? = some (entM ns ws ik z d i) := by
      rw [List.getElem?_map, List.getElem?_range hi]
      rfl
    rw [stD_eq, List.take_add_one, hx, List.map_append]
    exact isE_app (IsE.mono ((s2.g.trans s3.g).trans s4.g) hE) ⟨w4, [], rfl, z4, rfl⟩
  · rintro σ' G' A' eg ev ⟨y12, y13, us, rfl, ea, go, hu, hE⟩
    rw [List.length_map, List.length_range, List.take_of_length_le (by simp)] at hE
    have hL : Is K A' (.L (stD ((List.range many).map (entM ns ws ik z d)))) (.ref o) := Is.N2L ⟨o, us, rfl, hu, IsE.mono ev hE⟩
    refine a_rete (K := K) (d := drawnD K) (Er.as (Ef.er (ef_N (G := A') (ds := [.i (z : Int), .s (S mk), .L (stD ((List.range many).map (entM ns ws ik z d))), .n (cutV (vsl ws) (some (many : Int)) (some ((many : Int) + 3)))]) (efa_cons (ef_flat (er_v rfl)) (efa_cons (ef_flat (er_v rfl)) (efa_cons (ef_var rfl hL) (efa_cons ?_ efa_nil)))) (by simp))) fun Hx v z' => ⟨z, mk, _, _, hok, z'.N2L⟩) rfl (EH.trans ea) hk
    exact ef_slL (Ef.as (ef_var rfl (hw9.mono ea)) fun _ _ z => z.n2l) (er_v rfl) (er_op (er_v rfl) er_c ro_I0)
end
end Mi

set_option maxHeartbeats 4000000
namespace Mi
open PySem PySem.Spec PyProof.Rows L2 Evl
local macro_rules | `(tactic| walk_at "side") => `(tactic| (first | assumption | omega | exact rfl | decide | (simp only [List.length_cons, List.length_nil, List.length_map, List.length_append, List.length_replicate] <;> omega)))
local macro_rules | `(tactic| walk_at "ro") => `(tactic| (first
  | with_reducible exact ro_I0
  | with_reducible exact ro_1018
  | with_reducible exact ro_neC
  | with_reducible exact ro_eqC
  | with_reducible exact ro_neI
  | with_reducible exact ro_eqI
  | with_reducible exact ro_neB
  | with_reducible exact ro_eqB
  | ((with_reducible apply ro_mod); (walk_at "side"))
  | ((with_reducible apply ro_div) <;> (walk_at "side"))
  | ((with_reducible apply ro_divW) <;> (walk_at "side"))
  | with_reducible exact ro_1012
  | with_reducible exact ro_1015
  | ((with_reducible apply ro_mulL) <;> (walk_at "side"))
  | ((with_reducible apply ro_mulR) <;> (walk_at "side"))
  | ((with_reducible apply ro_addC); (walk_at "side"))
  | ((with_reducible apply ro_ixC) <;> (walk_at "side"))
  | ((with_reducible apply ro_ixI) <;> (walk_at "side"))
  | ((with_reducible apply ro_ixIN) <;> (walk_at "side"))
  | ((with_reducible apply ro_ixT2) <;> (walk_at "side"))
  | ((with_reducible apply ro_ixG) <;> (walk_at "side"))
  | ((with_reducible apply ro_eq); exact rfl)
  | ((with_reducible apply ro_ne); exact rfl)
  | with_reducible exact ro_isN
  | with_reducible exact ro_notN
  | with_reducible exact ro_eqL
  | with_reducible exact ro_neL
  | with_reducible exact ro_eqU
  | ((with_reducible apply ro_cat); (walk_at "side"))
  | with_reducible exact ro_inLi
  | with_reducible exact ro_inNi
  | with_reducible exact ro_inUi
  | ((with_reducible apply ro_inL) <;> (walk_at "side"))
  | ((with_reducible apply ro_inN) <;> (walk_at "side"))
  | ((with_reducible apply ro_inU) <;> (walk_at "side"))))
local macro_rules | `(tactic| walk_at "rc") => `(tactic| (first
  | with_reducible exact rc_int
  | with_reducible exact rc_intB
  | with_reducible exact rc_max2
  | ((with_reducible apply rc_lenC); (walk_at "side"))
  | with_reducible exact rc_lenI
  | with_reducible exact rc_lenT
  | with_reducible exact rc_lenIN
  | with_reducible exact rc_lenTN
  | with_reducible exact rc_lenL
  | with_reducible exact rc_lenN
  | with_reducible exact rc_lenU
  | with_reducible exact rc_listL
  | with_reducible exact rc_listU
  | with_reducible exact rc_tupL
  | with_reducible exact rc_tupN
  | ((with_reducible apply rc_isi_int); decide +kernel)
  | ((with_reducible apply rc_isi_str); decide +kernel)
  | ((with_reducible apply rc_isi_bl); decide +kernel)
  | ((with_reducible apply rc_isi_non); decide +kernel)
  | ((with_reducible apply rc_isi_u); decide +kernel)
  | ((with_reducible apply rc_isi_l); decide +kernel)))
local macro_rules | `(tactic| walk_at "er") => `(tactic| (first
  | ((with_reducible apply er_var); (exact rfl); assumption)
  | ((with_reducible apply er_v); exact rfl)
  | with_reducible exact er_c
  | ((with_reducible apply er_pick); (walk_at "er"); (walk_at "er"); (walk_at "er"))
  | ((with_reducible apply er_op); (walk_at "er"); (walk_at "er"); (walk_at "ro"))
  | ((with_reducible apply er_cb); (walk_at "era"); (walk_at "rc"))
  | ((with_reducible apply er_lst'); (walk_at "era"); (exact rfl); (walk_at "side"))
  | ((with_reducible apply er_tup'); (walk_at "era"); (exact rfl); (walk_at "side"))
  | ((with_reducible apply er_notV); (walk_at "er"))
  | ((with_reducible apply er_andV); (walk_at "er"); (intro _; (walk_at "er")))
  | ((with_reducible apply er_orV); (walk_at "er"); (intro _; (walk_at "er")))
  | ((with_reducible apply er_ite); (walk_at "et"); (intro _; (walk_at "er")); (intro _; (walk_at "er")))))
local macro_rules | `(tactic| walk_at "era") => `(tactic| (first
  | with_reducible exact era_nil
  | ((with_reducible apply era_cons); (walk_at "er"); (walk_at "era"))))
local macro_rules | `(tactic| walk_at "et") => `(tactic| (first
  | ((with_reducible apply et_an); (walk_at "et"); (intro _; (walk_at "et")))
  | ((with_reducible apply et_orr); (walk_at "et"); (intro _; (walk_at "et")))
  | ((with_reducible apply et_nt); (walk_at "et"))
  | ((with_reducible apply et1); (walk_at "er"))
  | ((with_reducible apply et2); (walk_at "er"))))

section
variable {P : Program} {w : World} {K : PySem.W.Frag} {mg : Str → Option Value} {base : Heap}
/-! ### a sheet drawn -/
structure TK (n : Nat) (t : List Nat) : Prop where
  l : t.length = n
  sg : ∀ c ∈ t, c ∈ signs
theorem alls_sg {c : Nat} (h : c ∈ alls) : c ∈ signs := List.mem_cons_of_mem _ h
theorem TK.press {n : Nat} {a b : List Nat} (h1 : TK n a) (h2 : b.length = n) (h3 : ∀ c ∈ b, c ∈ signs) : TK n (pressM a b) := by
  refine ⟨by rw [pressM_len (by rw [h1.l, h2]), h1.l], fun c hc => ?_⟩
  obtain ⟨p, hp, rfl⟩ := List.mem_map.mp hc
  have := List.of_mem_zip hp
  show (if p.2 = 45 then p.1 else p.2) ∈ signs
  split
  · exact h1.sg _ this.1
  · exact h3 _ this.2
theorem TK.pressE {n : Nat} : ∀ {sts : List (List Nat × List Nat)} {a : List Nat}, TK n a → (∀ p ∈ sts, p.2.length = n ∧ ∀ c ∈ p.2, c ∈ signs) → TK n (pressE sts a)
  | [], _, h, _ => h
  | p :: r, a, h, hs => by
    have q := hs p (List.mem_cons_self ..)
    exact TK.pressE (sts := r) (a := pressM a p.2) (h.press q.1 q.2) fun x hx => hs x (List.mem_cons_of_mem _ hx)
theorem TK.spoil {n : Nat} {t mk : List Nat} {c : Nat} {k : Int} (h : TK n t) (hc : c < n) (hm : InksOk mk) : TK n (spM t mk c k) := by
  refine ⟨by rw [spM_len (by rw [h.l]; exact hc), h.l], fun x hx => ?_⟩
  unfold spM at hx
  rcases List.mem_append.mp hx with hx | hx
  · rcases List.mem_append.mp hx with hx | hx
    · exact h.sg x (List.mem_of_mem_take hx)
    · rw [List.mem_singleton.mp hx]
      generalize hf : foundM mk (t.getD c 0) = fo
      have hall : ∀ x ∈ fo, x ∈ signs := fun x hx => by
        rw [← hf] at hx
        exact alls_sg (hm.mem x (List.mem_filter.mp hx).1)
      by_cases h0 : fo.length = 0
      · exfalso
        have hml := hm.len
        have hnd := hm.nodup
        obtain ⟨a, b, d, rfl⟩ : ∃ a b d, mk = [a, b, d] := by
          match mk, hml with
          | [a, b, d], _ => exact ⟨a, b, d, rfl⟩
        rw [← hf, List.length_eq_zero_iff] at h0
        have h1 := List.filter_eq_nil_iff.mp h0 a (by simp)
        have h2 := List.filter_eq_nil_iff.mp h0 b (by simp)
        simp at h1 h2
        simp [h1, h2] at hnd
      · exact hall _ (getD_memL (mod_nat (a := k) (n := fo.length) (by omega)).2)
  · exact h.sg x (List.mem_of_mem_drop hx)
theorem TK.dash {n : Nat} {t : List Nat} {l : List Int} {low : Int} (h : TK n t) : TK n (dashM t l low) := by
  refine ⟨by rw [dashM_len, h.l], fun x hx => ?_⟩
  obtain ⟨k, hk, rfl⟩ := List.mem_map.mp hx
  have := List.mem_range.mp hk
  split
  · exact h.sg _ (getD_memL this)
  · exact List.mem_cons_self ..
theorem TK.sheet {n : Nat} {mk : List Nat} {row : List Int} (hm : InksOk mk) : TK n (pickM ([mk.getD 0 0] ++ mk) 4 row n) := by
  refine ⟨pickM_len, fun x hx => ?_⟩
  obtain ⟨k, _, rfl⟩ := List.mem_map.mp hx
  have q0 : 0 ≤ row.getD k 0 % 4 := Int.emod_nonneg _ (by decide)
  have q1 : row.getD k 0 % 4 < 4 := Int.emod_lt_of_pos _ (by decide)
  have hl := hm.len
  have hmem : ([mk.getD 0 0] ++ mk).getD (row.getD k 0 % 4).toNat 0 ∈ [mk.getD 0 0] ++ mk := getD_memL (by rw [List.length_append, hl]; simp; omega)
  rcases List.mem_append.mp hmem with h | h
  · rw [List.mem_singleton.mp h]
    exact alls_sg (hm.mem _ (getD_memL (by omega)))
  · exact alls_sg (hm.mem _ h)
def ShOk (n : Nat) (p : List Nat × List Nat) : Prop := TK n p.1 ∧ TK n p.2
def sheetD (K : PySem.W.Frag) (n : Nat) : Dd := .P ⟨fun H y => ∃ p : List Nat × List Nat, ShOk n p ∧ Is K H (eD p) y, by
  rintro H H' y e ⟨p, h1, h2⟩
  exact ⟨p, h1, h2.mono e⟩⟩
def szD : List Int := [12, 4, 4, 60, 60] ++ List.replicate 7 60 ++ List.replicate 30 4
def szS : List Int := List.replicate 60 6
theorem szD_ok : szD.length ≤ 1000 ∧ ∀ s ∈ szD, 0 < s ∧ s < 1000000 := by decide
theorem szS_ok : szS.length ≤ 1000 ∧ ∀ s ∈ szS, 0 < s ∧ s < 1000000 := by decide
theorem stamp_sg {t : List Nat} {n : Nat} (h : stampOk t n = true) : t.length = n ∧ ∀ c ∈ t, c ∈ signs := by
  unfold stampOk layerOk at h
  simp only [Bool.and_eq_true, decide_eq_true_eq] at h
  refine ⟨by omega, fun c hc => ?_⟩
  have q := List.all_eq_true.mp h.1.2 c hc
  unfold signOk at q
  rw [Bool.or_eq_true, decide_eq_true_eq, decide_eq_true_eq] at q
  rcases q with q | q
  · rw [q]
    exact List.mem_cons_self ..
  · exact alls_sg q
abbrev s__law_drawn_sheet : Stmt := topS 56
theorem sc__law_drawn_sheet : FnScope ["script", "at", "drawn", "mixed", "size", "marks", "entries", "head", "dashes", "numbers", "base", "view", "k"] ["script", "at", "drawn", "mixed"] (defScope s__law_drawn_sheet) := ⟨rfl, rfl, rfl, by decide +kernel, rfl, by decide +kernel, by decide +kernel⟩

abbrev NumsOk (m : Nat) (nums : List Int) : Prop := nums.length ≤ 1000 ∧ ∀ k ∈ nums, 0 ≤ k ∧ k < (m : Int)
abbrev sp__law_drawn_sheet (K : PySem.W.Frag) : Sp := spF K (fun a : List Int × Nat × (Nat × List Nat × List (List Nat × List Nat)) × List Int => (a.1.length ≤ 63 ∧ a.2.1 ≤ 900) ∧ StkOk a.2.2.1.1 a.2.2.1.2.1 a.2.2.1.2.2 ∧ NumsOk a.2.2.1.2.2.length a.2.2.2) (fun a => [.l (vis a.1), .i (a.2.1 : Int), scD a.2.2.1.1 a.2.2.1.2.1 a.2.2.1.2.2, .l (vis a.2.2.2)]) fun a => sheetD K a.2.2.1.1
theorem has__law_drawn_sheet (T : Txt K mg) (h : At K mg "_law_drawn_sheet" s__law_drawn_sheet ["script", "at", "drawn", "mixed"]) (C__law_cell : Has P w K mg base 1 "_law_cell" ["script", "k"] (sp__law_cell K)) (C__law_digits : Has P w K mg base 1 "_law_digits" ["cell", "sizes"] (sp__law_digits K)) (C__law_turned : Has P w K mg base 1 "_law_turned" ["many", "row"] (sp__law_turned K)) (C__law_sheet : Has P w K mg base 1 "_law_sheet" ["marks", "row", "size"] (sp__law_sheet K)) (C__law_pressed : Has P w K mg base 2 "_law_pressed" ["layer", "entries"] (sp__law_pressed K)) (C__law_spoilt : Has P w K mg base 1 "_law_spoilt" ["layer", "marks", "cell", "turn"] (sp__law_spoilt K)) (C__law_dashed : Has P w K mg base 1 "_law_dashed" ["layer", "row", "much"] (sp__law_dashed K)) : Has P w K mg base 3 "_law_drawn_sheet" ["script", "at", "drawn", "mixed"] (sp__law_drawn_sheet K) := by
  refine h.hasF sc__law_drawn_sheet (fun _ => rfl) fun f cdv Ar outer s G H a vs Q E hr hp hA hv hk => ?_
  obtain ⟨ns, at_, ⟨n, mk, sts⟩, mx⟩ := a
  obtain ⟨⟨h1, h2⟩, h3, h4⟩ := hp
  replace h1 : ns.length ≤ 63 := h1
  replace h2 : at_ ≤ 900 := h2
  replace h3 : StkOk n mk sts := h3
  replace h4 : NumsOk sts.length mx := h4
  rcases hv with _ | ⟨hs, _ | ⟨ha, _ | ⟨hdr, _ | ⟨hmx, _ | _⟩⟩⟩⟩
  rename_i x xa xd xm
  obtain rfl : xa = V.int (at_ : Int) := ha
  replace hs : Is K H (.l (vis ns)) x := Is.mono hA hs
  replace hdr : Is K H (scD n mk sts) xd := Is.mono hA hdr
  replace hmx : Is K H (.l (vis mx)) xm := Is.mono hA hmx
  have sc := sc__law_drawn_sheet
  have z1 := h3.z1
  have z30 := h3.z30
  have m7 := h3.m7
  have hik := h3.ik
  have hml := hik.len
  have hst : ∀ p ∈ sts, p.2.length = n ∧ ∀ c ∈ p.2, c ∈ signs := fun p hp => stamp_sg (h3.po.st p hp).1
  have hl : (digM (cellM ns at_) szD).length = 42 := by rw [digM_len]; rfl
  have hl2 : (digM (cellM ns (at_ + 1)) szS).length = 60 := by rw [digM_len]; rfl
  refine ⟨_, (pss_cons (ps_set (i := 4) sc.nd rfl (Or.inl rfl) (pe_ix (ix_list_k (K := K)) (pv 2) pe_int (fun _ _ => rfl)))
    (pss_cons (ps_set (i := 5) sc.nd rfl (Or.inl rfl) (pe_ix (ix_list_k (K := K)) (pv 2) pe_int (fun _ _ => rfl)))
    (pss_cons (ps_set (i := 6) sc.nd rfl (Or.inr rfl) (pe_ix (ix_list_k (K := K)) (pv 2) pe_int (fun _ _ => rfl)))
    (pss_cons (ps_set (i := 7) sc.nd rfl (Or.inl rfl) (pe_callH C__law_digits (hr.mono (by decide)) (pa_cons (pe_callH C__law_cell (hr.mono (by decide)) (pa_cons (pv 0) (pa_cons (pv 1) pa_nil))) (pa_cons (pe_op op_cat (pe_op op_cat (pe_lst (pa_cons pe_int (pa_cons pe_int (pa_cons pe_int (pa_cons pe_int (pa_cons pe_int pa_nil)))))) (pe_op op_rep (pe_lst (pa_cons pe_int pa_nil)) pe_int)) (pe_op op_rep (pe_lst (pa_cons pe_int pa_nil)) pe_int)) pa_nil))))
    (pss_cons (ps_set (i := 8) sc.nd rfl (Or.inl rfl) (pe_callH C__law_digits (hr.mono (by decide)) (pa_cons (pe_callH C__law_cell (hr.mono (by decide)) (pa_cons (pv 0) (pa_cons (pe_op op_add (pv 1) pe_int) pa_nil))) (pa_cons (pe_op op_rep (pe_lst (pa_cons pe_int pa_nil)) pe_int) pa_nil))))
    (pss_cons (ps_set (i := 9) sc.nd rfl (Or.inl rfl) (pv 3))
    (pss_cons (ps_if (pt_cmpR op_lt (pe_ix (ix_list_k (K := K)) (pv 7) pe_int (fun _ _ => rfl)) pe_int (nomark _)) (pss_one (ps_set (i := 9) sc.nd rfl (Or.inl rfl) (pe_callH C__law_turned (hr.mono (by decide)) (pa_cons (pe_callB (cr_len_k (K := K)) (by rfl) T.b_len (by decide +kernel) (pa_cons (pv 6) pa_nil)) (pa_cons (pe_slice (sl_list_k (K := K)) (pv 7) (po_some pe_int) po_none) pa_nil))))) pss_nil)
    (pss_cons (ps_set (i := 10) sc.nd rfl (Or.inl rfl) (pe_callH C__law_sheet (hr.mono (by decide)) (pa_cons (pv 5) (pa_cons (pe_slice (sl_list_k (K := K)) (pv 7) (po_some pe_int) po_none) (pa_cons (pv 4) pa_nil)))))
    (pss_cons (ps_set (i := 11) sc.nd rfl (Or.inl rfl) (pe_callH C__law_pressed (hr.mono (by decide)) (pa_cons (pv 10) (pa_cons (pe_lc (own := [("k", 12)]) (g := gName 12) (by rfl) sc.nd (pi_list_k (K := K) (pv 9)) (blkOk_by (N := ["script", "at", "drawn", "mixed", "size", "marks", "entries", "head", "dashes", "numbers", "base", "view", "k"]) (sc := defScope s__law_drawn_sheet) (own := [("k", 12)]) (by decide +kernel)) (fun _ _ _ _ _ => (pg_name (i := 12) sc.nd rfl (Or.inl rfl))) (fun _ _ _ _ _ => pts_nil) (fun _ _ _ _ _ => (pe_ix (ix_list_k (K := K)) (pv 6) (pv 12) (fun _ _ => rfl)))) pa_nil))))
    (pss_cons (ps_if (PW.pt (pw_or (pt_cmpR op_eq (pe_ix (ix_list_k (K := K)) (pv 7) pe_int (fun _ _ => rfl)) pe_int (nomark _)) (pw_or1 (pt_cmpR op_eq (pe_ix (ix_list_k (K := K)) (pv 7) pe_int (fun _ _ => rfl)) pe_int (nomark _))))) (pss_one (ps_set (i := 11) sc.nd rfl (Or.inl rfl) (pe_callH C__law_spoilt (hr.mono (by decide)) (pa_cons (pv 11) (pa_cons (pv 5) (pa_cons (pe_op op_mod (pe_callTy cr_int (by rfl) T.b_int (by decide +kernel) (pa_cons (pe_ix (ix_list_k (K := K)) (pv 7) pe_int (fun _ _ => rfl)) pa_nil)) (pv 4)) (pa_cons (pe_ix (ix_list_k (K := K)) (pv 7) pe_int (fun _ _ => rfl)) pa_nil))))))) pss_nil)
    (pss_cons (ps_if (pt_cmpR op_eq (pe_ix (ix_list_k (K := K)) (pv 7) pe_int (fun _ _ => rfl)) pe_int (nomark _)) (pss_one (ps_set (i := 10) sc.nd rfl (Or.inl rfl) (pe_callH C__law_spoilt (hr.mono (by decide)) (pa_cons (pv 10) (pa_cons (pv 5) (pa_cons (pe_op op_mod (pe_callTy cr_int (by rfl) T.b_int (by decide +kernel) (pa_cons (pe_ix (ix_list_k (K := K)) (pv 7) pe_int (fun _ _ => rfl)) pa_nil)) (pv 4)) (pa_cons (pe_ix (ix_list_k (K := K)) (pv 7) pe_int (fun _ _ => rfl)) pa_nil))))))) pss_nil)
    (pss_cons (ps_if (pt_cmpR op_eq (pe_ix (ix_list_k (K := K)) (pv 7) pe_int (fun _ _ => rfl)) pe_int (nomark _)) (pss_one (ps_set (i := 10) sc.nd rfl (Or.inl rfl) (pe_callH C__law_dashed (hr.mono (by decide)) (pa_cons (pv 10) (pa_cons (pe_slice (sl_list_k (K := K)) (pv 8) po_none (po_some pe_int)) (pa_cons (pe_cmpR op_eq (pe_ix (ix_list_k (K := K)) (pv 7) pe_int (fun _ _ => rfl)) pe_int (nomark _)) pa_nil)))))) pss_nil)
    (pss_cons (ps_if (pt_cmpR op_eq (pe_ix (ix_list_k (K := K)) (pv 7) pe_int (fun _ _ => rfl)) pe_int (nomark _)) (pss_one (ps_set (i := 11) sc.nd rfl (Or.inl rfl) (pe_callH C__law_dashed (hr.mono (by decide)) (pa_cons (pv 11) (pa_cons (pe_slice (sl_list_k (K := K)) (pv 8) (po_some pe_int) po_none) (pa_cons (pe_cmpR op_eq (pe_ix (ix_list_k (K := K)) (pv 7) pe_int (fun _ _ => rfl)) pe_int (nomark _)) pa_nil)))))) pss_nil)
    (pss_one (ps_ret (pe_lst (pa_cons (pv 10) (pa_cons (pv 11) pa_nil)))))))))))))))))), ?_⟩
  refine a_setv (K := K) (x := .int (n : Int)) (er_place (i := 0) (ds := [.i (n : Int), .s (S mk), .L (stD sts)]) (er_var rfl hdr) er_c rfl) fun H1 e1 => ?_
  refine a_setv (K := K) (x := .str (S mk)) (er_place (i := 1) (ds := [.i (n : Int), .s (S mk), .L (stD sts)]) (er_var rfl (hdr.mono e1)) er_c rfl) fun H2 e2 => ?_
  refine a_asg (K := K) (d := .L (stD sts)) (er_place (i := 2) (ds := [.i (n : Int), .s (S mk), .L (stD sts)]) (er_var rfl (hdr.mono (e1.trans e2))) er_c rfl) fun ve H3 e3 hen => ?_
  have E3 := (e1.trans e2).trans e3
  refine a_asg (K := K) (d := .n (vis (digM (cellM ns at_) szD))) (er_call (K := K) (cellM ns at_, szD) (era_cons (er_call (K := K) (ns, at_) (era_cons (er_var rfl (hs.mono E3)) (era_cons (er_v rfl) era_nil)) rfl ⟨h1, by show at_ ≤ 1000; omega⟩) (era_cons (Er.n2l (Er.to (er_op (er_op (er_lst (vs := vis [12, 4, 4, 60, 60]) (by repeat (first | exact era_nil | refine era_cons er_c ?_)) (by decide)) (er_same (n := 60) (k := 7) er_c (by decide)) (ro_cat (by simp))) (er_same (n := 4) (k := 30) er_c (by decide)) (ro_cat (by simp))) (d' := .n (vis szD)) rfl)) era_nil)) rfl szD_ok) fun vh H4 e4 hh4 => ?_
  generalize digM (cellM ns at_) szD = hd at hl hh4
  have E4 := E3.trans e4
  refine a_asg (K := K) (d := .n (vis (digM (cellM ns (at_ + 1)) szS))) (er_call (K := K) (cellM ns (at_ + 1), szS) (era_cons (er_call (K := K) (ns, at_ + 1) (era_cons (er_var rfl (hs.mono E4)) (era_cons (er_op (er_v rfl) er_c ro_I0) era_nil)) rfl ⟨h1, by show at_ + 1 ≤ 1000; omega⟩) (era_cons (Er.n2l (er_same (n := 6) (k := 60) er_c (by decide))) era_nil)) rfl szS_ok) fun vd H5 e5 hd5 => ?_
  generalize digM (cellM ns (at_ + 1)) szS = dd at hl2 hd5
  have hh5 := hh4.mono e5
  have hen5 := hen.mono (e4.trans e5)
  have E5 := E4.trans e5
  have athd : ∀ {te : TE} {σ : L2.St} {H : Hp} {j : Nat}, Er K te σ H (.n (vis hd)) → j < 42 → Er K (tOp (rIxL K) te (tC (.int (j : Int)))) σ H (.i (hd.getD j 0)) := fun {te σ H j} q hj => er_numN q er_c (by omega)
  refine a_asg (K := K) (d := .l (vis mx)) (er_var rfl (hmx.mono E5)) fun vn H6 e6 hn6 => ?_
  have E6 := E5.trans e6
  refine a_whenR (K := K) (b := decide (hd.getD 0 0 < 2)) (fun σ' H' => ∃ v9 nums, σ' = [some x, some (.int (at_ : Int)), some xd, some xm, some (.int (n : Int)), some (.str (S mk)), some ve, some vh, some vd, some v9, none, none, none] ∧ Ex H5 H' ∧ NumsOk sts.length nums ∧ Is K H' (.l (vis nums)) v9) (et1 (er_op (athd (j := 0) (er_var rfl (hh5.mono e6)) (by decide)) er_c ro_I0)) ?_ (fun hr' hb H7 e7 => ?_) (fun hb H7 e7 => ⟨vn, mx, rfl, e6.trans e7, h4, hn6.mono e7⟩)
  · rintro σ' H' ⟨v9, nums, rfl, E, hno, hnv⟩
    refine a_setv (K := K) (x := .str (S (pickM ([mk.getD 0 0] ++ mk) 4 (hd.drop 12) n))) (er_call (K := K) (mk, hd.drop 12, n) (era_cons (er_v rfl) (era_cons (Er.n2l (Er.to (er_cutFrom (n := 12) (Er.n2l (er_var rfl (hh5.mono E))) er_c) (by rw [vis, vis, List.map_drop]))) (era_cons (er_v rfl) era_nil))) rfl ⟨hml, by show n ≤ (hd.drop 12).length; rw [List.length_drop]; omega, by show n ≤ 1000; omega⟩) fun H8 e8 => ?_
    have hb0 : TK n (pickM ([mk.getD 0 0] ++ mk) 4 (hd.drop 12) n) := TK.sheet hik
    generalize pickM ([mk.getD 0 0] ++ mk) 4 (hd.drop 12) n = b0 at hb0
    have hget : ∀ k ∈ nums, sts[k.toNat]? = some (sts.getD k.toNat ([], [])) := fun k hk => by
      have := hno.2 k hk
      rw [List.getD_eq_getElem?_getD, List.getElem?_eq_getElem (by omega)]
      rfl
    have hpe : ∀ p ∈ nums.map (fun k : Int => sts.getD k.toNat ([], [])), p ∈ sts := fun p hp => by
      obtain ⟨k, hk, rfl⟩ := List.mem_map.mp hp
      exact List.mem_of_getElem? (hget k hk)
    have hv0 : TK n (pressE (nums.map fun k : Int => sts.getD k.toNat ([], [])) b0) := hb0.pressE fun p hp => hst p (hpe p hp)
    refine a_setv (K := K) (x := .str (S (pressE (nums.map fun k : Int => sts.getD k.toNat ([], [])) b0))) (er_call (K := K) (b0, nums.map fun k : Int => sts.getD k.toNat ([], [])) (era_cons (er_v rfl) (era_cons (Er.as (Ef.er (ef_lc (K := K) (G := H8) (its := nums) (inj := fun k : Int => Dd.i k) (vs := [12]) (fun _ => true) (fun k : Int => eD (sts.getD k.toNat ([], []))) (if_list (Ef.as (ef_var (i := 9) rfl (hnv.mono e8)) fun _ _ z => is_cast z.l2L (by rw [vis, List.map_map]; rfl))) (by have := hno.1; omega) (fun i k v G' A' g1 g2 hi hv => ?_))) fun Hx v z => is_cast z.N2L (by rw [filt_true, stD_eq, List.map_map]; rfl)) era_nil)) rfl ⟨by show b0.length ≤ 1000; rw [hb0.l]; omega, fun p hp => by show p.2.length = b0.length; rw [hb0.l]; exact (hst p (hpe p hp)).1⟩) fun H9 e9 => ?_
    · obtain rfl : v = V.int k := hv
      have hkm := List.mem_of_getElem? hi
      have hk0 := hno.2 k hkm
      exact ⟨_, fun Q q => q, rfl, fun H2 e Q q => q H2 (Ex.refl _), fun _ => ef_place (i := k.toNat) (ef_var rfl (hen5.mono ((E.trans e8).trans g1))) (Er.to (er_v rfl) (congrArg Dd.i (Int.toNat_of_nonneg hk0.1).symm)) (stD_at (hget k hkm))⟩
    generalize pressE (nums.map fun k : Int => sts.getD k.toNat ([], [])) b0 = w0 at hv0
    obtain ⟨c1, c2⟩ := mod_nat (a := hd.getD 3 0) (n := n) (by omega)
    have spoil : ∀ {σ : L2.St} {H' : Hp} {j : Nat} {t : List Nat}, Ex H5 H' → σ[7]? = some (some vh) → σ[4]? = some (some (.int (n : Int))) → σ[5]? = some (some (.str (S mk))) → σ[j]? = some (some (.str (S t))) → TK n t → Er K (tCall (sp__law_spoilt K) [] E0 (tCons (tVar j) (tCons (tVar 5) (tCons (tOp (rI (fun _ j => 0 < j) fun i j => .int (i % j)) (tCB rInt1 (tCons (tOp (rIxL K) (tVar 7) (tC (.int 3))) tNil)) (tVar 4)) (tCons (tOp (rIxL K) (tVar 7) (tC (.int 4))) tNil))))) σ H' (.s (S (spM t mk (hd.getD 3 0 % (n : Int)).toNat (hd.getD 4 0)))) := fun {σ H' j t} e q7 q4 q5 qj ht => er_call (K := K) (t, mk, (hd.getD 3 0 % (n : Int)).toNat, hd.getD 4 0) (era_cons (er_v qj) (era_cons (er_v q5) (era_cons (Er.to (er_op (er_cb (era_cons (athd (j := 3) (er_var q7 (hh5.mono e)) (by decide)) era_nil) rc_int) (er_v q4) (ro_mod (by omega : (0 : Int) < (n : Int)))) (congrArg Dd.i c1.symm)) (era_cons (athd (j := 4) (er_var q7 (hh5.mono e)) (by decide)) era_nil)))) rfl ⟨by show t.length ≤ 1000; rw [ht.l]; omega, ⟨hml, hik.nodup⟩, by show _ < t.length; rw [ht.l]; exact c2⟩
    have E9 := (E.trans e8).trans e9
    refine a_whenR (K := K) (b := decide (hd.getD 0 0 = 2) || decide (hd.getD 0 0 = 3)) (fun σ' H' => ∃ b w, σ' = [some x, some (.int (at_ : Int)), some xd, some xm, some (.int (n : Int)), some (.str (S mk)), some ve, some vh, some vd, some v9, some (.str (S b)), some (.str (S w)), none] ∧ Ex H5 H' ∧ TK n b ∧ TK n w) (et_orr (et1 (er_op (athd (j := 0) (er_var rfl (hh5.mono E9)) (by decide)) er_c ro_eqI)) fun _ => et1 (er_op (athd (j := 0) (er_var rfl (hh5.mono E9)) (by decide)) er_c ro_eqI)) ?_ (fun hr' hb H10 e10 => a_setv1 (K := K) (spoil (E9.trans e10) rfl rfl rfl rfl hv0) fun H11 e11 => hr' _ _ ⟨b0, _, rfl, (E9.trans e10).trans e11, hb0, hv0.spoil c2 hik⟩) (fun hb H10 e10 => ⟨b0, w0, rfl, E9.trans e10, hb0, hv0⟩)
    rintro σ' H' ⟨b, w, rfl, E, hb, hw⟩
    refine a_whenR (K := K) (b := decide (hd.getD 0 0 = 4)) (fun σ' H' => ∃ b w, σ' = [some x, some (.int (at_ : Int)), some xd, some xm, some (.int (n : Int)), some (.str (S mk)), some ve, some vh, some vd, some v9, some (.str (S b)), some (.str (S w)), none] ∧ Ex H5 H' ∧ TK n b ∧ TK n w) (et1 (er_op (athd (j := 0) (er_var rfl (hh5.mono E)) (by decide)) er_c ro_eqI)) ?_ (fun hr' _ H10 e10 => a_setv1 (K := K) (spoil (E.trans e10) rfl rfl rfl rfl hb) fun H11 e11 => hr' _ _ ⟨_, w, rfl, (E.trans e10).trans e11, hb.spoil c2 hik, hw⟩) (fun _ H10 e10 => ⟨b, w, rfl, E.trans e10, hb, hw⟩)
    rintro σ' H' ⟨b, w, rfl, E, hb, hw⟩
    refine a_whenR (K := K) (b := decide (hd.getD 1 0 = 0)) (fun σ' H' => ∃ b w, σ' = [some x, some (.int (at_ : Int)), some xd, some xm, some (.int (n : Int)), some (.str (S mk)), some ve, some vh, some vd, some v9, some (.str (S b)), some (.str (S w)), none] ∧ Ex H5 H' ∧ TK n b ∧ TK n w) (et1 (er_op (athd (j := 1) (er_var rfl (hh5.mono E)) (by decide)) er_c ro_eqI)) ?_ (fun hr' _ H10 e10 => a_setv1 (K := K) (x := .str (S (dashM b (dd.take 30) (if decide (hd.getD 2 0 = 1) = true then 3 else 1)))) (er_call (K := K) (b, dd.take 30, decide (hd.getD 2 0 = 1)) (era_cons (er_v rfl) (era_cons (Er.n2l (Er.to (er_cutTo (n := 30) (Er.n2l (er_var rfl (hd5.mono (E.trans e10)))) er_c) (by rw [vis, vis, List.map_take]))) (era_cons (er_op (athd (j := 2) (er_var rfl (hh5.mono (E.trans e10))) (by decide)) er_c ro_eqI) era_nil))) rfl ⟨by show b.length ≤ (dd.take 30).length; rw [List.length_take, hb.l]; omega, by show b.length ≤ 1000; rw [hb.l]; omega⟩) fun H11 e11 => hr' _ _ ⟨_, w, rfl, (E.trans e10).trans e11, hb.dash, hw⟩) (fun _ H10 e10 => ⟨b, w, rfl, E.trans e10, hb, hw⟩)
    rintro σ' H' ⟨b, w, rfl, E, hb, hw⟩
    refine a_whenR (K := K) (b := decide (hd.getD 2 0 = 0)) (fun σ' H' => ∃ b w, σ' = [some x, some (.int (at_ : Int)), some xd, some xm, some (.int (n : Int)), some (.str (S mk)), some ve, some vh, some vd, some v9, some (.str (S b)), some (.str (S w)), none] ∧ Ex H5 H' ∧ TK n b ∧ TK n w) (et1 (er_op (athd (j := 2) (er_var rfl (hh5.mono E)) (by decide)) er_c ro_eqI)) ?_ (fun hr' _ H10 e10 => a_setv1 (K := K) (x := .str (S (dashM w (dd.drop 30) (if decide (hd.getD 1 0 = 1) = true then 3 else 1)))) (er_call (K := K) (w, dd.drop 30, decide (hd.getD 1 0 = 1)) (era_cons (er_v rfl) (era_cons (Er.n2l (Er.to (er_cutFrom (n := 30) (Er.n2l (er_var rfl (hd5.mono (E.trans e10)))) er_c) (by rw [vis, vis, List.map_drop]))) (era_cons (er_op (athd (j := 1) (er_var rfl (hh5.mono (E.trans e10))) (by decide)) er_c ro_eqI) era_nil))) rfl ⟨by show w.length ≤ (dd.drop 30).length; rw [List.length_drop, hw.l]; omega, by show w.length ≤ 1000; rw [hw.l]; omega⟩) fun H11 e11 => hr' _ _ ⟨b, _, rfl, (E.trans e10).trans e11, hb, hw.dash⟩) (fun _ H10 e10 => ⟨b, w, rfl, E.trans e10, hb, hw⟩)
    rintro σ' H' ⟨b, w, rfl, E, hb, hw⟩
    exact s_ret (K := K) (G := G) (d := sheetD K n) (Ef.as (ef_N (G := G) (ds := [.s (S b), .s (S w)]) (efa_cons (ef_flat (er_v rfl)) (efa_cons (ef_flat (er_v rfl)) efa_nil)) (by simp)) fun Hx v z => ⟨(b, w), ⟨hb, hw⟩, z.N2L⟩) (hA.trans (E5.trans E)) rfl fun v G' A' st z => hk v G' A' ((Step.on hA (E5.trans E)).trans st) z
  · have hok : (turnM sts.length (hd.drop 5) sts.length).2.length = sts.length ∧ ∀ k ∈ (turnM sts.length (hd.drop 5) sts.length).2, 0 ≤ k ∧ k < (sts.length : Int) := by
      obtain ⟨_, i2, _, i4⟩ := turnM_ok (many := sts.length) (row := hd.drop 5) sts.length (Nat.le_refl _)
      exact ⟨i2, i4⟩
    refine a_asg1 (K := K) (d := .n (vis (turnM sts.length (hd.drop 5) sts.length).2)) (er_call (K := K) (sts.length, hd.drop 5) (era_cons (Er.to (er_cb (era_cons (er_var rfl (hen5.mono (e6.trans e7))) era_nil) rc_lenLd) (by rw [stD_len])) (era_cons (Er.n2l (Er.to (er_cutFrom (n := 5) (Er.n2l (er_var rfl (hh5.mono (e6.trans e7)))) er_c) (by rw [vis, vis, List.map_drop]))) era_nil)) rfl ⟨by show sts.length ≤ (hd.drop 5).length; rw [List.length_drop]; omega, by show sts.length ≤ 1000; omega⟩) fun v9 H8 e8 i9 => ?_
    exact hr' _ _ ⟨v9, _, rfl, (e6.trans e7).trans e8, ⟨by omega, hok.2⟩, i9.n2l⟩
end
end Mi

set_option maxHeartbeats 4000000
namespace Mi
open PySem PySem.Spec PyProof.Rows L2 Evl
local macro_rules | `(tactic| walk_at "side") => `(tactic| (first | assumption | omega | exact rfl | decide | (simp only [List.length_cons, List.length_nil, List.length_map, List.length_append, List.length_replicate] <;> omega)))
local macro_rules | `(tactic| walk_at "ro") => `(tactic| (first
  | with_reducible exact ro_I0
  | with_reducible exact ro_1018
  | with_reducible exact ro_neC
  | with_reducible exact ro_eqC
  | with_reducible exact ro_neI
  | with_reducible exact ro_eqI
  | with_reducible exact ro_neB
  | with_reducible exact ro_eqB
  | ((with_reducible apply ro_mod); (walk_at "side"))
  | ((with_reducible apply ro_div) <;> (walk_at "side"))
  | ((with_reducible apply ro_divW) <;> (walk_at "side"))
  | with_reducible exact ro_1012
  | with_reducible exact ro_1015
  | ((with_reducible apply ro_mulL) <;> (walk_at "side"))
  | ((with_reducible apply ro_mulR) <;> (walk_at "side"))
  | ((with_reducible apply ro_addC); (walk_at "side"))
  | ((with_reducible apply ro_ixC) <;> (walk_at "side"))
  | ((with_reducible apply ro_ixI) <;> (walk_at "side"))
  | ((with_reducible apply ro_ixIN) <;> (walk_at "side"))
  | ((with_reducible apply ro_ixT2) <;> (walk_at "side"))
  | ((with_reducible apply ro_ixG) <;> (walk_at "side"))
  | ((with_reducible apply ro_eq); exact rfl)
  | ((with_reducible apply ro_ne); exact rfl)
  | with_reducible exact ro_isN
  | with_reducible exact ro_notN
  | with_reducible exact ro_eqL
  | with_reducible exact ro_neL
  | with_reducible exact ro_eqU
  | ((with_reducible apply ro_cat); (walk_at "side"))
  | with_reducible exact ro_inLi
  | with_reducible exact ro_inNi
  | with_reducible exact ro_inUi
  | ((with_reducible apply ro_inL) <;> (walk_at "side"))
  | ((with_reducible apply ro_inN) <;> (walk_at "side"))
  | ((with_reducible apply ro_inU) <;> (walk_at "side"))))
local macro_rules | `(tactic| walk_at "rc") => `(tactic| (first
  | with_reducible exact rc_int
  | with_reducible exact rc_intB
  | with_reducible exact rc_max2
  | ((with_reducible apply rc_lenC); (walk_at "side"))
  | with_reducible exact rc_lenI
  | with_reducible exact rc_lenT
  | with_reducible exact rc_lenIN
  | with_reducible exact rc_lenTN
  | with_reducible exact rc_lenL
  | with_reducible exact rc_lenN
  | with_reducible exact rc_lenU
  | with_reducible exact rc_listL
  | with_reducible exact rc_listU
  | with_reducible exact rc_tupL
  | with_reducible exact rc_tupN
  | ((with_reducible apply rc_isi_int); decide +kernel)
  | ((with_reducible apply rc_isi_str); decide +kernel)
  | ((with_reducible apply rc_isi_bl); decide +kernel)
  | ((with_reducible apply rc_isi_non); decide +kernel)
  | ((with_reducible apply rc_isi_u); decide +kernel)
  | ((with_reducible apply rc_isi_l); decide +kernel)))
local macro_rules | `(tactic| walk_at "er") => `(tactic| (first
  | ((with_reducible apply er_var); (exact rfl); assumption)
  | ((with_reducible apply er_v); exact rfl)
  | with_reducible exact er_c
  | ((with_reducible apply er_pick); (walk_at "er"); (walk_at "er"); (walk_at "er"))
  | ((with_reducible apply er_op); (walk_at "er"); (walk_at "er"); (walk_at "ro"))
  | ((with_reducible apply er_cb); (walk_at "era"); (walk_at "rc"))
  | ((with_reducible apply er_lst'); (walk_at "era"); (exact rfl); (walk_at "side"))
  | ((with_reducible apply er_tup'); (walk_at "era"); (exact rfl); (walk_at "side"))
  | ((with_reducible apply er_notV); (walk_at "er"))
  | ((with_reducible apply er_andV); (walk_at "er"); (intro _; (walk_at "er")))
  | ((with_reducible apply er_orV); (walk_at "er"); (intro _; (walk_at "er")))
  | ((with_reducible apply er_ite); (walk_at "et"); (intro _; (walk_at "er")); (intro _; (walk_at "er")))))
local macro_rules | `(tactic| walk_at "era") => `(tactic| (first
  | with_reducible exact era_nil
  | ((with_reducible apply era_cons); (walk_at "er"); (walk_at "era"))))
local macro_rules | `(tactic| walk_at "et") => `(tactic| (first
  | ((with_reducible apply et_an); (walk_at "et"); (intro _; (walk_at "et")))
  | ((with_reducible apply et_orr); (walk_at "et"); (intro _; (walk_at "et")))
  | ((with_reducible apply et_nt); (walk_at "et"))
  | ((with_reducible apply et1); (walk_at "er"))
  | ((with_reducible apply et2); (walk_at "er"))))

/-! ### the first of the orders that lead is the program's -/
theorem pressQ_net {sts : List (List Nat × List Nat)} {n : Nat} (h : StOk n sts) {x : List Nat} (hx : x.length = n) : ∀ {r : List (List Nat)}, (∀ m ∈ r, m ∈ nmV sts) → ∀ y : List Nat, y.length = n → pressM x (r.foldl (fun l m => pressM l (stampOf sts m)) y) = pressQ (stampOf sts) (pressM x y) r
  | [], _, y, hy => rfl
  | m :: r, hm, y, hy => by
    have hl := h.stl (h.nm.ok m (hm m (List.mem_cons_self ..)))
    have ih := pressQ_net h hx (r := r) (fun a ha => hm a (List.mem_cons_of_mem _ ha)) (pressM y (stampOf sts m)) (by rw [pressM_len (by omega)]; exact hy)
    show pressM x (r.foldl _ (pressM y (stampOf sts m))) = pressQ (stampOf sts) (prQ (pressM x y) (stampOf sts m)) r
    rw [ih]
    have e : pressM x (pressM y (stampOf sts m)) = prQ (pressM x y) (stampOf sts m) := prQ_assoc (x := x) (n := y) (t := stampOf sts m) (by omega) (by omega)
    rw [e]
theorem press_empty {x : List Nat} {n : Nat} (hx : x.length = n) : pressM x (List.replicate n 45) = x := by
  refine lay_ext (by rw [pressM_len (by simp [hx])]) fun c hc => ?_
  have hl : (pressM x (List.replicate n 45)).length = x.length := pressM_len (by simp [hx])
  have q := prQ_at (a := x) (b := List.replicate n 45) (by simp [hx]) (c := c) (by omega)
  have e : (List.replicate n 45).getD c 0 = 45 := by
    have hcn : c < n := by omega
    rw [List.getD_eq_getElem?_getD, List.getElem?_replicate, if_pos hcn]
    rfl
  rw [if_pos e] at q
  exact q
theorem filt_nil {N : Type} [DecidableEq N] (ns : List N) : (ns.filter fun e => !decide (e ∈ ([] : List N))) = ns := List.filter_eq_self.mpr fun _ _ => by simp
theorem leftG_names {n : Nat} {sts : List (List Nat × List Nat)} (h : StOk n sts) (y : List Nat) : leftG sts y = (nmV sts).foldl (fun l m => frQ l (stampOf sts m)) y := by
  unfold leftG nmV
  rw [List.foldl_map]
  suffices q : ∀ (l : List (List Nat × List Nat)) (y : List Nat), (∀ p ∈ l, p ∈ sts) → l.foldl (fun l p => freeM l p.2) y = l.foldl (fun l p => frQ l (stampOf sts p.1)) y from q sts y fun p hp => hp
  intro l
  induction l with
  | nil => intro y _; rfl
  | cons p l ih =>
    intro y hl
    show l.foldl _ (freeM y p.2) = l.foldl _ (frQ y (stampOf sts p.1))
    rw [stampOf_first h.di (hl p (List.mem_cons_self ..))]
    exact ih _ fun q hq => hl q (List.mem_cons_of_mem _ hq)
def leadV (sts : List (List Nat × List Nat)) (n : Nat) (qs : List (List Nat × List Nat)) (r : List (List Nat)) : Bool := qs.all fun p => flagM p (r, netT sts n r)
theorem leadV_iff {n : Nat} {sts qs : List (List Nat × List Nat)} (h : StOk n sts) (hq : PsOk n qs) {r : List (List Nat)} (hr : r.Perm (nmV sts)) : leadV sts n qs r = true ↔ PlS (stampOf sts) (seenM qs) r.reverse ∧ agreeAll sts qs = true := by
  have hmem : ∀ m ∈ r.reverse, m ∈ nmV sts := fun m hm => hr.mem_iff.mp (List.mem_reverse.mp hm)
  have hst : ∀ m ∈ nmV sts, (stampOf sts m).length = n := fun m hm => h.stl (h.nm.ok m hm)
  have each : ∀ p ∈ qs, flagM p (r, netT sts n r) = true ↔ (PlS (stampOf sts) [p.2] r.reverse ∧ agreeM p.1 (leftG sts p.2) = true) := fun p hp => by
    obtain ⟨l1, l2⟩ := hq.ln p hp
    have e : pressM p.1 (netT sts n r) = pressQ (stampOf sts) p.1 r.reverse.reverse := by
      rw [List.reverse_reverse]
      unfold netT
      rw [pressQ_net h l1 (fun m hm => hr.mem_iff.mp hm) _ (by simp), press_empty l1]
    have q := leads_iff (st := stampOf sts) (size := n) l1 (q := r.reverse) (y := p.2) l2 (fun m hm => hst m (hmem m hm))
    have e2 : r.reverse.foldl (fun l m => frQ l (stampOf sts m)) p.2 = leftG sts p.2 := by
      rw [leftG_names h]
      exact left_same (size := n) l2 (fun m hm => hst m (hmem m hm)) fun m => by
        rw [List.mem_reverse]
        exact hr.mem_iff
    rw [e2] at q
    show agreeM (pressM p.1 (netT sts n r)) p.2 = true ↔ _
    rw [e]
    exact q
  unfold leadV agreeAll
  rw [List.all_eq_true, List.all_eq_true, PlS_each]
  constructor
  · intro z
    refine ⟨fun l hl => ?_, fun p hp => ((each p hp).mp (z p hp)).2⟩
    obtain ⟨p, hp, rfl⟩ := List.mem_map.mp hl
    exact ((each p hp).mp (z p hp)).1
  · rintro ⟨z1, z2⟩ p hp
    exact (each p hp).mpr ⟨z1 p.2 (List.mem_map.mpr ⟨p, hp, rfl⟩), z2 p hp⟩
theorem comM_is {n : Nat} {sts qs : List (List Nat × List Nat)} : comM (netsM sts n) (qs.map (flagsM (netsM sts n))) = (rowsT (nmV sts) sts.length).filter (leadV sts n qs) := by
  unfold comM
  generalize hR : rowsT (nmV sts) sts.length = R
  have hN : netsM sts n = R.map fun r => (r, netT sts n r) := by rw [← hR]
  rw [hN, List.length_map]
  have gen : ∀ (R : List (List (List Nat))) (V : List (List Nat) → Bool), ((List.range R.length).filter fun k => V (R.getD k [])).map (fun k => R.getD k []) = R.filter V := by
    intro R V
    have e : R = (List.range R.length).map fun k => R.getD k [] := by
      refine List.ext_getElem (by simp) fun i h1 h2 => ?_
      rw [List.getElem_map, List.getElem_range, List.getD_eq_getElem?_getD, List.getElem?_eq_getElem h1]
      rfl
    conv => rhs; rw [e]
    rw [List.filter_map]
    rfl
  rw [← gen R (leadV sts n qs)]
  have c1 : ∀ k ∈ List.range R.length, ((qs.map (flagsM (R.map fun r => (r, netT sts n r)))).all fun row => row.getD k false) = leadV sts n qs (R.getD k []) := fun k hk => by
    have hk' := List.mem_range.mp hk
    rw [List.all_map]
    unfold leadV
    congr 1
    funext p
    show (flagsM (R.map fun r => (r, netT sts n r)) p).getD k false = _
    rw [flagsM, List.map_map, List.getD_eq_getElem?_getD, List.getElem?_map, List.getElem?_eq_getElem hk', List.getD_eq_getElem?_getD, List.getElem?_eq_getElem hk']
    rfl
  rw [List.filter_congr c1]
  refine List.map_congr_left fun k hk => ?_
  have hk' := List.mem_range.mp (List.mem_filter.mp hk).1
  rw [List.getD_eq_getElem?_getD, List.getD_eq_getElem?_getD, List.getElem?_map, List.getElem?_eq_getElem hk']
  rfl
theorem ord_ok {n : Nat} {sts qs : List (List Nat × List Nat)} (h : StOk n sts) (h7 : sts.length ≤ 7) (hq : PsOk n qs) : OrdOk sts qs (comM (netsM sts n) (qs.map (flagsM (netsM sts n)))) := by
  have hn : (nmV sts).length = sts.length := by rw [nmV, List.length_map]
  have few := rows_few (ns := nmV sts) h.di (by omega) sts.length
  rw [comM_is]
  refine ⟨?_, Nat.le_trans (List.length_filter_le _ _) (by omega)⟩
  rw [List.head?_filter]
  have hperm : ∀ r ∈ rowsT (nmV sts) sts.length, r.Perm (nmV sts) := fun r hr => rows_perm h.di (by rw [hn]; exact hr)
  have hst : ∀ m ∈ nmV sts, (stampOf sts m).length = n := fun m hm => h.stl (h.nm.ok m hm)
  unfold orderM
  by_cases hs : stuckS sts (seenM qs) (nmV sts) = []
  · rw [if_neg (by simp [hs])]
    by_cases ha : agreeAll sts qs = true
    · rw [if_pos ha]
      have e : rowsT (nmV sts) sts.length = extR (nmV sts) (nmV sts).length [] := by rw [← hn, rows_all]
      rw [e]
      have q := first_order (st := stampOf sts) (ls := seenM qs) (size := n) hq.siz hst h.di (V := leadV sts n qs) (fun r hr => by rw [leadV_iff h hq hr]; exact ⟨fun z => z.1, fun z => ⟨z, ha⟩⟩) (nmV sts).length [] ⟨by simp, List.nodup_nil, by simp⟩ (Nat.le_refl _) (by
        rw [filt_nil]
        exact hs) (fun q _ _ => trivial)
      rw [filt_nil, List.nil_append] at q
      exact q
    · rw [if_neg ha, List.find?_eq_none]
      intro r hr hv
      exact ha ((leadV_iff h hq (hperm r hr)).mp hv).2
  · rw [if_pos (by simpa using hs), List.find?_eq_none]
    intro r hr hv
    have q := (leadV_iff h hq (hperm r hr)).mp hv
    exact hs ((cp_iff (st := stampOf sts) (ls := seenM qs) hq.siz hst h.di).mpr ⟨r.reverse, (List.reverse_perm r).trans (hperm r hr), q.1⟩)
end Mi

set_option maxHeartbeats 4000000
namespace Mi
open PySem PySem.Spec PyProof.Rows L2 Evl
local macro_rules | `(tactic| walk_at "side") => `(tactic| (first | assumption | omega | exact rfl | decide | (simp only [List.length_cons, List.length_nil, List.length_map, List.length_append, List.length_replicate] <;> omega)))
local macro_rules | `(tactic| walk_at "ro") => `(tactic| (first
  | with_reducible exact ro_I0
  | with_reducible exact ro_1018
  | with_reducible exact ro_neC
  | with_reducible exact ro_eqC
  | with_reducible exact ro_neI
  | with_reducible exact ro_eqI
  | with_reducible exact ro_neB
  | with_reducible exact ro_eqB
  | ((with_reducible apply ro_mod); (walk_at "side"))
  | ((with_reducible apply ro_div) <;> (walk_at "side"))
  | ((with_reducible apply ro_divW) <;> (walk_at "side"))
  | with_reducible exact ro_1012
  | with_reducible exact ro_1015
  | ((with_reducible apply ro_mulL) <;> (walk_at "side"))
  | ((with_reducible apply ro_mulR) <;> (walk_at "side"))
  | ((with_reducible apply ro_addC); (walk_at "side"))
  | ((with_reducible apply ro_ixC) <;> (walk_at "side"))
  | ((with_reducible apply ro_ixI) <;> (walk_at "side"))
  | ((with_reducible apply ro_ixIN) <;> (walk_at "side"))
  | ((with_reducible apply ro_ixT2) <;> (walk_at "side"))
  | ((with_reducible apply ro_ixG) <;> (walk_at "side"))
  | ((with_reducible apply ro_eq); exact rfl)
  | ((with_reducible apply ro_ne); exact rfl)
  | with_reducible exact ro_isN
  | with_reducible exact ro_notN
  | with_reducible exact ro_eqL
  | with_reducible exact ro_neL
  | with_reducible exact ro_eqU
  | ((with_reducible apply ro_cat); (walk_at "side"))
  | with_reducible exact ro_inLi
  | with_reducible exact ro_inNi
  | with_reducible exact ro_inUi
  | ((with_reducible apply ro_inL) <;> (walk_at "side"))
  | ((with_reducible apply ro_inN) <;> (walk_at "side"))
  | ((with_reducible apply ro_inU) <;> (walk_at "side"))))
local macro_rules | `(tactic| walk_at "rc") => `(tactic| (first
  | with_reducible exact rc_int
  | with_reducible exact rc_intB
  | with_reducible exact rc_max2
  | ((with_reducible apply rc_lenC); (walk_at "side"))
  | with_reducible exact rc_lenI
  | with_reducible exact rc_lenT
  | with_reducible exact rc_lenIN
  | with_reducible exact rc_lenTN
  | with_reducible exact rc_lenL
  | with_reducible exact rc_lenN
  | with_reducible exact rc_lenU
  | with_reducible exact rc_listL
  | with_reducible exact rc_listU
  | with_reducible exact rc_tupL
  | with_reducible exact rc_tupN
  | ((with_reducible apply rc_isi_int); decide +kernel)
  | ((with_reducible apply rc_isi_str); decide +kernel)
  | ((with_reducible apply rc_isi_bl); decide +kernel)
  | ((with_reducible apply rc_isi_non); decide +kernel)
  | ((with_reducible apply rc_isi_u); decide +kernel)
  | ((with_reducible apply rc_isi_l); decide +kernel)))
local macro_rules | `(tactic| walk_at "er") => `(tactic| (first
  | ((with_reducible apply er_var); (exact rfl); assumption)
  | ((with_reducible apply er_v); exact rfl)
  | with_reducible exact er_c
  | ((with_reducible apply er_pick); (walk_at "er"); (walk_at "er"); (walk_at "er"))
  | ((with_reducible apply er_op); (walk_at "er"); (walk_at "er"); (walk_at "ro"))
  | ((with_reducible apply er_cb); (walk_at "era"); (walk_at "rc"))
  | ((with_reducible apply er_lst'); (walk_at "era"); (exact rfl); (walk_at "side"))
  | ((with_reducible apply er_tup'); (walk_at "era"); (exact rfl); (walk_at "side"))
  | ((with_reducible apply er_notV); (walk_at "er"))
  | ((with_reducible apply er_andV); (walk_at "er"); (intro _; (walk_at "er")))
  | ((with_reducible apply er_orV); (walk_at "er"); (intro _; (walk_at "er")))
  | ((with_reducible apply er_ite); (walk_at "et"); (intro _; (walk_at "er")); (intro _; (walk_at "er")))))
local macro_rules | `(tactic| walk_at "era") => `(tactic| (first
  | with_reducible exact era_nil
  | ((with_reducible apply era_cons); (walk_at "er"); (walk_at "era"))))
local macro_rules | `(tactic| walk_at "et") => `(tactic| (first
  | ((with_reducible apply et_an); (walk_at "et"); (intro _; (walk_at "et")))
  | ((with_reducible apply et_orr); (walk_at "et"); (intro _; (walk_at "et")))
  | ((with_reducible apply et_nt); (walk_at "et"))
  | ((with_reducible apply et1); (walk_at "er"))
  | ((with_reducible apply et2); (walk_at "er"))))

/-! ### lists of pairs that may be changed -/
structure Inv2 (K : PySem.W.Frag) (G : Hp) (p : Addr) (us : List V) (H : Hp) (sts : List (List Nat × List Nat)) : Prop where
  hp : H p = some (.lst us)
  len : us.length = sts.length
  each : ∀ (k : Nat) (q : List Nat × List Nat), sts[k]? = some q → ∃ a : Addr, us[k]? = some (V.ref a) ∧ G a = none ∧ a ≠ p ∧ H a = some (.lst [.str (S q.1), .str (S q.2)])
section
variable {K : PySem.W.Frag} {G H H' : Hp} {p : Addr} {us : List V} {sts : List (List Nat × List Nat)}
theorem isE_each : ∀ {sts : List (List Nat × List Nat)} {us : List V}, us.length = sts.length → (∀ (k : Nat) (q : List Nat × List Nat), sts[k]? = some q → ∃ a : Addr, us[k]? = some (V.ref a) ∧ H a = some (.lst [.str (S q.1), .str (S q.2)])) → IsE K H (stD sts) us
  | [], us, hl, _ => List.length_eq_zero_iff.mp hl
  | q :: r, us, hl, h => by
    obtain ⟨a, h1, h2⟩ := h 0 q rfl
    cases us with
    | nil => cases h1
    | cons u us =>
      obtain rfl : u = .ref a := Option.some.inj h1
      exact ⟨_, _, rfl, ⟨a, _, rfl, .inl (.inl h2), ⟨_, _, rfl, rfl, ⟨_, _, rfl, rfl, rfl⟩⟩⟩, isE_each (by simpa using hl) fun k q' hk => h (k + 1) q' hk⟩
theorem Inv2.is (h : Inv2 K G p us H sts) : Is K H (.L (stD sts)) (.ref p) := Is.N2L ⟨p, us, rfl, h.hp, isE_each h.len fun k q hk => by
  obtain ⟨a, h1, _, _, h4⟩ := h.each k q hk
  exact ⟨a, h1, h4⟩⟩
theorem Inv2.mono (e : Ex H H') (h : Inv2 K G p us H sts) : Inv2 K G p us H' sts := ⟨e p _ h.hp, h.len, fun k q hk => by
  obtain ⟨a, h1, h2, h3, h4⟩ := h.each k q hk
  exact ⟨a, h1, h2, h3, e a _ h4⟩⟩
theorem Inv2.set {i : Nat} {q : List Nat × List Nat} {a : Addr} {t : List Nat} (h : Inv2 K G p us H sts) (hd : (sts.map (·.1)).Nodup) (hi : sts[i]? = some q) (ha : us[i]? = some (V.ref a)) (hp : a ≠ p) (hc : H a = some (.lst [.str (S q.1), .str (S q.2)])) : Inv2 K G p us (upd H a (.lst [.str (S q.1), .str (S t)])) (sts.set i (q.1, t)) := by
  refine ⟨by rw [upd_ne (Ne.symm hp)]; exact h.hp, by rw [List.length_set]; exact h.len, fun k q' hk => ?_⟩
  by_cases e : k = i
  · subst e
    rw [List.getElem?_set_self (List.getElem?_eq_some_iff.mp hi).1] at hk
    obtain rfl := Option.some.inj hk
    obtain ⟨a', h1, h2, h3, h4⟩ := h.each k q hi
    have : a' = a := by
      rw [ha] at h1
      exact (V.ref.inj (Option.some.inj h1)).symm
    subst this
    exact ⟨a', ha, h2, h3, upd_same⟩
  · rw [List.getElem?_set_ne (Ne.symm e)] at hk
    obtain ⟨a', h1, h2, h3, h4⟩ := h.each k q' hk
    refine ⟨a', h1, h2, h3, ?_⟩
    have hne : a' ≠ a := fun z => by
      rw [z, hc] at h4
      have q1 := HO.lst.inj (Option.some.inj h4)
      have q2 : q.1 = q'.1 := S_inj (V.str.inj (List.cons.inj q1).1)
      obtain ⟨i1, i2⟩ := List.getElem?_eq_some_iff.mp hi
      obtain ⟨k1, k2⟩ := List.getElem?_eq_some_iff.mp hk
      have hpw := List.pairwise_iff_getElem.mp hd
      rcases Nat.lt_trichotomy i k with z | z | z
      · have := hpw i k (by rw [List.length_map]; exact i1) (by rw [List.length_map]; exact k1) z
        rw [List.getElem_map, List.getElem_map, i2, k2] at this
        exact this q2
      · exact e z.symm
      · have := hpw k i (by rw [List.length_map]; exact k1) (by rw [List.length_map]; exact i1) z
        rw [List.getElem_map, List.getElem_map, i2, k2] at this
        exact this q2.symm
    rw [upd_ne hne]
    exact h4
theorem set_same {α : Type} : ∀ {l : List α} {i : Nat} {x : α}, l[i]? = some x → l.set i x = l
  | [], _, _, h => by simp at h
  | y :: r, 0, x, h => by
    rw [show y = x from Option.some.inj h]
    rfl
  | y :: r, i + 1, x, h => by
    show y :: r.set i x = y :: r
    rw [set_same (i := i) h]
theorem StkOk.set {z : Nat} {mk : List Nat} {i : Nat} {q r : List Nat × List Nat} (h : StkOk z mk sts) (hi : sts[i]? = some q) (hr : r ∈ sts) : StkOk z mk (sts.set i (q.1, r.2)) := by
  have hn : (sts.set i (q.1, r.2)).map (·.1) = sts.map (·.1) := by
    rw [List.map_set]
    exact set_same (by rw [List.getElem?_map, hi]; rfl)
  have hm : ∀ p ∈ sts.set i (q.1, r.2), p ∈ sts ∨ p = (q.1, r.2) := fun p hp => List.mem_or_eq_of_mem_set hp
  refine ⟨⟨fun p hp => ?_, fun p hp => ?_, by rw [hn]; exact h.po.di, by rw [List.length_set]; exact h.po.few⟩, h.ik, h.z1, h.z30, by rw [List.length_set]; exact h.m7⟩
  · rcases hm p hp with hp | rfl
    · exact h.po.nm p hp
    · exact h.po.nm q (List.mem_of_getElem? hi)
  · rcases hm p hp with hp | rfl
    · exact h.po.st p hp
    · exact h.po.st r hr
theorem StkOk.st {z : Nat} {mk : List Nat} (h : StkOk z mk sts) : StOk z sts := ⟨h.po.few, fun p hp => (stamp_sg (h.po.st p hp).1).1, by have := h.z30; omega, h.po.di⟩
theorem sheets_ex {n : Nat} : ∀ {ls : List Nat} {us : List V}, IsE K H (ls.map fun _ => sheetD K n) us → ∃ ps : List (List Nat × List Nat), ps.length = ls.length ∧ (∀ p ∈ ps, ShOk n p) ∧ IsE K H (stD ps) us
  | [], us, h => ⟨[], rfl, by simp, h⟩
  | l :: ls, us, h => by
    obtain ⟨y, s, rfl, ⟨p, h1, h2⟩, b⟩ := h
    obtain ⟨ps, i1, i2, i3⟩ := sheets_ex b
    refine ⟨p :: ps, by simp [i1], fun q hq => ?_, ⟨y, s, rfl, h2, i3⟩⟩
    rcases List.mem_cons.mp hq with rfl | hq
    · exact h1
    · exact i2 q hq
end
end Mi

set_option maxHeartbeats 4000000
namespace Mi
open PySem PySem.Spec PyProof.Rows L2 Evl
local macro_rules | `(tactic| walk_at "side") => `(tactic| (first | assumption | omega | exact rfl | decide | (simp only [List.length_cons, List.length_nil, List.length_map, List.length_append, List.length_replicate] <;> omega)))
local macro_rules | `(tactic| walk_at "ro") => `(tactic| (first
  | with_reducible exact ro_I0
  | with_reducible exact ro_1018
  | with_reducible exact ro_neC
  | with_reducible exact ro_eqC
  | with_reducible exact ro_neI
  | with_reducible exact ro_eqI
  | with_reducible exact ro_neB
  | with_reducible exact ro_eqB
  | ((with_reducible apply ro_mod); (walk_at "side"))
  | ((with_reducible apply ro_div) <;> (walk_at "side"))
  | ((with_reducible apply ro_divW) <;> (walk_at "side"))
  | with_reducible exact ro_1012
  | with_reducible exact ro_1015
  | ((with_reducible apply ro_mulL) <;> (walk_at "side"))
  | ((with_reducible apply ro_mulR) <;> (walk_at "side"))
  | ((with_reducible apply ro_addC); (walk_at "side"))
  | ((with_reducible apply ro_ixC) <;> (walk_at "side"))
  | ((with_reducible apply ro_ixI) <;> (walk_at "side"))
  | ((with_reducible apply ro_ixIN) <;> (walk_at "side"))
  | ((with_reducible apply ro_ixT2) <;> (walk_at "side"))
  | ((with_reducible apply ro_ixG) <;> (walk_at "side"))
  | ((with_reducible apply ro_eq); exact rfl)
  | ((with_reducible apply ro_ne); exact rfl)
  | with_reducible exact ro_isN
  | with_reducible exact ro_notN
  | with_reducible exact ro_eqL
  | with_reducible exact ro_neL
  | with_reducible exact ro_eqU
  | ((with_reducible apply ro_cat); (walk_at "side"))
  | with_reducible exact ro_inLi
  | with_reducible exact ro_inNi
  | with_reducible exact ro_inUi
  | ((with_reducible apply ro_inL) <;> (walk_at "side"))
  | ((with_reducible apply ro_inN) <;> (walk_at "side"))
  | ((with_reducible apply ro_inU) <;> (walk_at "side"))))
local macro_rules | `(tactic| walk_at "rc") => `(tactic| (first
  | with_reducible exact rc_int
  | with_reducible exact rc_intB
  | with_reducible exact rc_max2
  | ((with_reducible apply rc_lenC); (walk_at "side"))
  | with_reducible exact rc_lenI
  | with_reducible exact rc_lenT
  | with_reducible exact rc_lenIN
  | with_reducible exact rc_lenTN
  | with_reducible exact rc_lenL
  | with_reducible exact rc_lenN
  | with_reducible exact rc_lenU
  | with_reducible exact rc_listL
  | with_reducible exact rc_listU
  | with_reducible exact rc_tupL
  | with_reducible exact rc_tupN
  | ((with_reducible apply rc_isi_int); decide +kernel)
  | ((with_reducible apply rc_isi_str); decide +kernel)
  | ((with_reducible apply rc_isi_bl); decide +kernel)
  | ((with_reducible apply rc_isi_non); decide +kernel)
  | ((with_reducible apply rc_isi_u); decide +kernel)
  | ((with_reducible apply rc_isi_l); decide +kernel)))
local macro_rules | `(tactic| walk_at "er") => `(tactic| (first
  | ((with_reducible apply er_var); (exact rfl); assumption)
  | ((with_reducible apply er_v); exact rfl)
  | with_reducible exact er_c
  | ((with_reducible apply er_pick); (walk_at "er"); (walk_at "er"); (walk_at "er"))
  | ((with_reducible apply er_op); (walk_at "er"); (walk_at "er"); (walk_at "ro"))
  | ((with_reducible apply er_cb); (walk_at "era"); (walk_at "rc"))
  | ((with_reducible apply er_lst'); (walk_at "era"); (exact rfl); (walk_at "side"))
  | ((with_reducible apply er_tup'); (walk_at "era"); (exact rfl); (walk_at "side"))
  | ((with_reducible apply er_notV); (walk_at "er"))
  | ((with_reducible apply er_andV); (walk_at "er"); (intro _; (walk_at "er")))
  | ((with_reducible apply er_orV); (walk_at "er"); (intro _; (walk_at "er")))
  | ((with_reducible apply er_ite); (walk_at "et"); (intro _; (walk_at "er")); (intro _; (walk_at "er")))))
local macro_rules | `(tactic| walk_at "era") => `(tactic| (first
  | with_reducible exact era_nil
  | ((with_reducible apply era_cons); (walk_at "er"); (walk_at "era"))))
local macro_rules | `(tactic| walk_at "et") => `(tactic| (first
  | ((with_reducible apply et_an); (walk_at "et"); (intro _; (walk_at "et")))
  | ((with_reducible apply et_orr); (walk_at "et"); (intro _; (walk_at "et")))
  | ((with_reducible apply et_nt); (walk_at "et"))
  | ((with_reducible apply et1); (walk_at "er"))
  | ((with_reducible apply et2); (walk_at "er"))))

section
variable {P : Program} {w : World} {K : PySem.W.Frag} {mg : Str → Option Value} {base : Heap}
section
variable {σ : L2.St} {G : Hp} {te : TE}
theorem ef_revL {xs : List V} (h : Ef K te σ G (.l xs)) : Ef K (tRevL K te) σ G (.n xs.reverse) := fun G1 A e1 e2 Q q =>
  h G1 A e1 e2 _ fun v G2 A2 s2 ⟨p, ev, hp⟩ => ⟨p, xs, ev, ex_l s2.v hp, fun l hl => q _ (upd G2 l (.lst xs.reverse)) _ (s2.trans (Step.new s2.v hl)) ⟨l, rfl, upd_same⟩⟩
end
abbrev ivs (l : List Nat) : List Int := l.map fun k : Nat => (k : Int)
abbrev lD (l : List Nat) : Dd := Dd.n (vis (ivs l))
def szL : List Int := [12, 4, 5, 60]
theorem szL_ok : szL.length ≤ 1000 ∧ ∀ s ∈ szL, 0 < s ∧ s < 1000000 := by decide
theorem szL_pos : ∀ s ∈ szL, 0 < s := by decide
def szM : List Int := List.replicate 7 60
theorem szM_ok : szM.length ≤ 1000 ∧ ∀ s ∈ szM, 0 < s ∧ s < 1000000 := by decide
def mnL : List Nat := [2, 3, 2, 1, 4, 2, 3, 0, 2, 3, 4, 2]
def mnI : List Int := [2, 3, 2, 1, 4, 2, 3, 0, 2, 3, 4, 2]
theorem mn_eq : ∀ j, j < 12 → mnI.getD j 0 = ((mnL.getD j 0 : Nat) : Int) ∧ mnL.getD j 0 ≤ 4 := by decide
abbrev spLaw (K : PySem.W.Frag) : Sp := spR K (fun ns : List Int => ns.length ≤ 63) (fun ns => [.l (vis ns)]) fun _ => .b true
abbrev s_law : Stmt := topS 63
theorem sc_law : FnScope ["script", "drawn", "head", "entries", "twin", "scene", "store", "nets", "mixed", "many", "sheets", "flags", "alls", "numbers", "orders", "entry", "k", "sheet"] ["script"] (defScope s_law) := ⟨rfl, rfl, rfl, by decide +kernel, rfl, by decide +kernel, by decide +kernel⟩

theorem fn_law {f0 C : Addr} {fd0 : FuncData} (T : Txt K mg) (F : Fun K "law" "law" s_law f0 fd0)
    (C__law_stock : Has P w K mg base 2 "_law_stock" ["script", "at", "upto"] (sp__law_stock K)) (C__law_cell : Has P w K mg base 1 "_law_cell" ["script", "k"] (sp__law_cell K)) (C__law_digits : Has P w K mg base 1 "_law_digits" ["cell", "sizes"] (sp__law_digits K)) (C__law_store : Has P w K mg base 6 "_law_store" ["scene"] (sp__law_store K C)) (C__law_nets : Has P w K mg base 2 "_law_nets" ["entries", "size"] (sp__law_nets K)) (C__law_turned : Has P w K mg base 1 "_law_turned" ["many", "row"] (sp__law_turned K)) (C__law_drawn_sheet : Has P w K mg base 3 "_law_drawn_sheet" ["script", "at", "drawn", "mixed"] (sp__law_drawn_sheet K)) (C__law_flags : Has P w K mg base 2 "_law_flags" ["nets", "sheet"] (sp__law_flags K)) (C__law_common : Has P w K mg base 1 "_law_common" ["nets", "flags"] (sp__law_common K)) (C__law_asked_once : Has P w K mg base 7 "_law_asked_once" ["store", "entries", "orders", "sheets", "turn", "named"] (sp__law_asked_once K C)) : FnOk P w K mg base CX0 8 f0 fd0 ["script"] (spLaw K) := by
  refine fnR F sc_law (fun _ => rfl) fun f cdv A outer s H ns vs Q E hr hp hv hk => ?_
  replace hp : ns.length ≤ 63 := hp
  rcases hv with _ | ⟨hs, _ | _⟩
  rename_i x
  replace hs : Is K H (.l (vis ns)) x := hs
  have sc := sc_law
  have hl : (digM (cellM ns 9) szL).length = 4 := by rw [digM_len]; rfl
  have hb : ∀ i, i < 4 → 0 ≤ (digM (cellM ns 9) szL).getD i 0 ∧ (digM (cellM ns 9) szL).getD i 0 < szL.getD i 0 := fun i hi => digM_bd szL_pos hi
  refine ⟨_, (pss_cons (ps_set (i := 1) sc.nd rfl (Or.inl rfl) (pe_callH C__law_stock (hr.mono (by decide)) (pa_cons (pv 0) (pa_cons pe_int (pa_cons pe_int pa_nil)))))
    (pss_cons (ps_set (i := 2) sc.nd rfl (Or.inl rfl) (pe_callH C__law_digits (hr.mono (by decide)) (pa_cons (pe_callH C__law_cell (hr.mono (by decide)) (pa_cons (pv 0) (pa_cons pe_int pa_nil))) (pa_cons (pe_lst (pa_cons pe_int (pa_cons pe_int (pa_cons pe_int (pa_cons pe_int pa_nil))))) pa_nil))))
    (pss_cons (ps_setLc (i := 3) (own := [("entry", 15)]) (g := gName 15) (by rfl) sc.nd rfl rfl (sw_true rfl rfl rfl (by decide +kernel)) (pi_list_k (K := K) (pe_ix (ix_list_k (K := K)) (pv 1) pe_int (fun _ _ => rfl))) (blkOk_by (N := ["script", "drawn", "head", "entries", "twin", "scene", "store", "nets", "mixed", "many", "sheets", "flags", "alls", "numbers", "orders", "entry", "k", "sheet"]) (sc := defScope s_law) (own := [("entry", 15)]) (by decide +kernel)) (fun _ _ _ _ _ => (pg_name (i := 15) sc.nd rfl (Or.inl rfl))) (fun _ _ _ _ _ => pts_nil) (fun _ _ _ _ _ => (pe_lst (pa_cons (pe_ix (ix_list_k (K := K)) (pv 15) pe_int (fun _ _ => rfl)) (pa_cons (pe_ix (ix_list_k (K := K)) (pv 15) pe_int (fun _ _ => rfl)) pa_nil)))))
    (pss_cons (ps_if (PW.pt (pw_and (pt_cmpR op_eq (pe_ix (ix_list_k (K := K)) (pv 2) pe_int (fun _ _ => rfl)) pe_int (nomark _)) (pw_and1 (pt_cmpR op_gt (pe_callB (cr_len_k (K := K)) (by rfl) T.b_len (by decide +kernel) (pa_cons (pv 3) pa_nil)) pe_int (nomark _))))) (pss_cons (ps_set (i := 4) sc.nd rfl (Or.inl rfl) (pe_op op_mod (pe_callTy cr_int (by rfl) T.b_int (by decide +kernel) (pa_cons (pe_ix (ix_list_k (K := K)) (pv 2) pe_int (fun _ _ => rfl)) pa_nil)) (pe_callB (cr_len_k (K := K)) (by rfl) T.b_len (by decide +kernel) (pa_cons (pv 3) pa_nil))))
    (pss_cons (ps_asg (pe_ix (ix_list_k (K := K)) (pe_ix (ix_list_k (K := K)) (pv 3) (pe_op op_mod (pe_callTy cr_int (by rfl) T.b_int (by decide +kernel) (pa_cons (pe_op op_add (pv 4) pe_int) pa_nil)) (pe_callB (cr_len_k (K := K)) (by rfl) T.b_len (by decide +kernel) (pa_cons (pv 3) pa_nil))) (fun _ _ => rfl)) pe_int (fun _ _ => rfl)) (pg_sub (pe_ix (ix_list_k (K := K)) (pv 3) (pv 4) (fun _ _ => rfl)) pe_int set_list))
    (pss_one (ps_if (pt_cmpR op_ge (pe_ix (ix_list_k (K := K)) (pv 2) pe_int (fun _ _ => rfl)) pe_int (nomark _)) (pss_one (ps_asg (pe_ix (ix_list_k (K := K)) (pe_ix (ix_list_k (K := K)) (pv 3) (pv 4) (fun _ _ => rfl)) pe_int (fun _ _ => rfl)) (pg_sub (pe_ix (ix_list_k (K := K)) (pv 3) (pe_op op_mod (pe_callTy cr_int (by rfl) T.b_int (by decide +kernel) (pa_cons (pe_op op_add (pv 4) pe_int) pa_nil)) (pe_callB (cr_len_k (K := K)) (by rfl) T.b_len (by decide +kernel) (pa_cons (pv 3) pa_nil))) (fun _ _ => rfl)) pe_int set_list))) pss_nil)))) pss_nil)
    (pss_cons (ps_set (i := 5) sc.nd rfl (Or.inr rfl) (pe_lst (pa_cons (pe_ix (ix_list_k (K := K)) (pv 1) pe_int (fun _ _ => rfl)) (pa_cons (pe_ix (ix_list_k (K := K)) (pv 1) pe_int (fun _ _ => rfl)) (pa_cons (pv 3) pa_nil)))))
    (pss_cons (ps_set (i := 6) sc.nd rfl (Or.inl rfl) (pe_callH C__law_store (hr.mono (by decide)) (pa_cons (pv 5) pa_nil)))
    (pss_cons (ps_set (i := 7) sc.nd rfl (Or.inr rfl) (pe_callH C__law_nets (hr.mono (by decide)) (pa_cons (pv 3) (pa_cons (pe_ix (ix_list_k (K := K)) (pv 1) pe_int (fun _ _ => rfl)) pa_nil))))
    (pss_cons (ps_set (i := 8) sc.nd rfl (Or.inr rfl) (pe_callH C__law_turned (hr.mono (by decide)) (pa_cons (pe_callB (cr_len_k (K := K)) (by rfl) T.b_len (by decide +kernel) (pa_cons (pv 3) pa_nil)) (pa_cons (pe_callH C__law_digits (hr.mono (by decide)) (pa_cons (pe_callH C__law_cell (hr.mono (by decide)) (pa_cons (pv 0) (pa_cons pe_int pa_nil))) (pa_cons (pe_op op_rep (pe_lst (pa_cons pe_int pa_nil)) pe_int) pa_nil))) pa_nil))))
    (pss_cons (ps_set (i := 9) sc.nd rfl (Or.inl rfl) (pe_ix (ix_list_k (K := K)) (pe_lst (pa_cons pe_int (pa_cons pe_int (pa_cons pe_int (pa_cons pe_int (pa_cons pe_int (pa_cons pe_int (pa_cons pe_int (pa_cons pe_int (pa_cons pe_int (pa_cons pe_int (pa_cons pe_int (pa_cons pe_int pa_nil))))))))))))) (pe_ix (ix_list_k (K := K)) (pv 2) pe_int (fun _ _ => rfl)) (fun _ _ => rfl)))
    (pss_cons (ps_set (i := 10) sc.nd rfl (Or.inr rfl) (pe_lc (own := [("k", 16)]) (g := gName 16) (by rfl) sc.nd (pi_range1 (by rfl) T.b_range (pa_cons (pv 9) pa_nil)) (blkOk_by (N := ["script", "drawn", "head", "entries", "twin", "scene", "store", "nets", "mixed", "many", "sheets", "flags", "alls", "numbers", "orders", "entry", "k", "sheet"]) (sc := defScope s_law) (own := [("k", 16)]) (by decide +kernel)) (fun _ _ _ _ _ => (pg_name (i := 16) sc.nd rfl (Or.inl rfl))) (fun _ _ _ _ _ => pts_nil) (fun _ _ _ _ _ => (pe_callH C__law_drawn_sheet (hr.mono (by decide)) (pa_cons (pv 0) (pa_cons (pe_op op_add pe_int (pe_op op_mul pe_int (pv 16))) (pa_cons (pv 5) (pa_cons (pv 8) pa_nil))))))))
    (pss_cons (ps_set (i := 11) sc.nd rfl (Or.inr rfl) (pe_lc (own := [("sheet", 17)]) (g := gName 17) (by rfl) sc.nd (pi_list_k (K := K) (pv 10)) (blkOk_by (N := ["script", "drawn", "head", "entries", "twin", "scene", "store", "nets", "mixed", "many", "sheets", "flags", "alls", "numbers", "orders", "entry", "k", "sheet"]) (sc := defScope s_law) (own := [("sheet", 17)]) (by decide +kernel)) (fun _ _ _ _ _ => (pg_name (i := 17) sc.nd rfl (Or.inl rfl))) (fun _ _ _ _ _ => pts_nil) (fun _ _ _ _ _ => (pe_callH C__law_flags (hr.mono (by decide)) (pa_cons (pv 7) (pa_cons (pv 17) pa_nil))))))
    (pss_cons (ps_setLc (i := 12) (own := [("k", 16)]) (g := gName 16) (by rfl) sc.nd rfl rfl (sw_true rfl rfl rfl (by decide +kernel)) (pi_range1 (by rfl) T.b_range (pa_cons (pv 9) pa_nil)) (blkOk_by (N := ["script", "drawn", "head", "entries", "twin", "scene", "store", "nets", "mixed", "many", "sheets", "flags", "alls", "numbers", "orders", "entry", "k", "sheet"]) (sc := defScope s_law) (own := [("k", 16)]) (by decide +kernel)) (fun _ _ _ _ _ => (pg_name (i := 16) sc.nd rfl (Or.inl rfl))) (fun _ _ _ _ _ => pts_nil) (fun _ _ _ _ _ => (pv 16)))
    (pss_cons (ps_for PassesOwn.never rfl (pi_list_k (K := K) (pe_op op_cat (pe_op op_cat (pe_lst (pa_cons (pe_slice (sl_list_k (K := K)) (pe_op op_cat (pe_revL_k (K := K) (pv 12)) (pe_slice (sl_list_k (K := K)) (pv 12) po_none (po_some pe_int))) po_none (po_some pe_int)) (pa_cons (pv 12) pa_nil))) (pe_lc (own := [("k", 16)]) (g := gName 16) (by rfl) sc.nd (pi_list_k (K := K) (pv 12)) (blkOk_by (N := ["script", "drawn", "head", "entries", "twin", "scene", "store", "nets", "mixed", "many", "sheets", "flags", "alls", "numbers", "orders", "entry", "k", "sheet"]) (sc := defScope s_law) (own := [("k", 16)]) (by decide +kernel)) (fun _ _ _ _ _ => (pg_name (i := 16) sc.nd rfl (Or.inl rfl))) (fun _ _ _ _ _ => pts_nil) (fun _ _ _ _ _ => (pe_lst (pa_cons (pv 16) pa_nil))))) (pe_lst (pa_cons (pv 12) pa_nil)))) (pg_name (i := 13) sc.nd rfl (Or.inl rfl)) (pss_cons (ps_set (i := 14) sc.nd rfl (Or.inl rfl) (pe_callH C__law_common (hr.mono (by decide)) (pa_cons (pv 7) (pa_cons (pe_lc (own := [("k", 16)]) (g := gName 16) (by rfl) sc.nd (pi_list_k (K := K) (pv 13)) (blkOk_by (N := ["script", "drawn", "head", "entries", "twin", "scene", "store", "nets", "mixed", "many", "sheets", "flags", "alls", "numbers", "orders", "entry", "k", "sheet"]) (sc := defScope s_law) (own := [("k", 16)]) (by decide +kernel)) (fun _ _ _ _ _ => (pg_name (i := 16) sc.nd rfl (Or.inl rfl))) (fun _ _ _ _ _ => pts_nil) (fun _ _ _ _ _ => (pe_ix (ix_list_k (K := K)) (pv 11) (pv 16) (fun _ _ => rfl)))) pa_nil))))
    (pss_one (ps_if (pt_not (pt_val (pe_callH C__law_asked_once (hr.mono (by decide)) (pa_cons (pv 6) (pa_cons (pv 3) (pa_cons (pv 14) (pa_cons (pe_lc (own := [("k", 16)]) (g := gName 16) (by rfl) sc.nd (pi_list_k (K := K) (pv 13)) (blkOk_by (N := ["script", "drawn", "head", "entries", "twin", "scene", "store", "nets", "mixed", "many", "sheets", "flags", "alls", "numbers", "orders", "entry", "k", "sheet"]) (sc := defScope s_law) (own := [("k", 16)]) (by decide +kernel)) (fun _ _ _ _ _ => (pg_name (i := 16) sc.nd rfl (Or.inl rfl))) (fun _ _ _ _ _ => pts_nil) (fun _ _ _ _ _ => (pe_ix (ix_list_k (K := K)) (pv 10) (pv 16) (fun _ _ => rfl)))) (pa_cons (pe_ix (ix_list_k (K := K)) (pv 2) pe_int (fun _ _ => rfl)) (pa_cons (pe_cmpR (op_neD_k (K := K) hr.units) (pv 13) (pv 12) (nomark _)) pa_nil))))))))) (pss_one (ps_ret pe_bl)) pss_nil))))
    (pss_one (ps_ret pe_bl))))))))))))))), ?_⟩
  refine a_asg (K := K) (d := drawnD K) (er_call ns (era_cons (er_var rfl hs) (era_cons er_c (era_cons er_c era_nil))) rfl hp) fun xd H1 e1 hdw => ?_
  obtain ⟨z, mk, sts0, ev, hO, hdw⟩ := hdw
  refine a_asg (K := K) (d := .n (vis (digM (cellM ns 9) szL))) (er_call (K := K) (cellM ns 9, szL) (era_cons (er_call (K := K) (ns, 9) (era_cons (er_var rfl (hs.mono e1)) (era_cons er_c era_nil)) rfl ⟨hp, by show 9 ≤ 1000; decide⟩) (era_cons (Er.n2l (er_lst (vs := vis szL) (by repeat (first | exact era_nil | refine era_cons er_c ?_)) (by decide))) era_nil)) rfl szL_ok) fun vh H2 e2 hh2 => ?_
  generalize digM (cellM ns 9) szL = hd at hl hb hh2
  have hd0 : 0 ≤ hd.getD 0 0 ∧ hd.getD 0 0 < 12 := hb 0 (by decide)
  have hd1 : 0 ≤ hd.getD 1 0 ∧ hd.getD 1 0 < 4 := hb 1 (by decide)
  have hd3 : 0 ≤ hd.getD 3 0 ∧ hd.getD 3 0 < 60 := hb 3 (by decide)
  have athd : ∀ {te : TE} {σ : L2.St} {H : Hp} {j : Nat}, Er K te σ H (.n (vis hd)) → j < 4 → Er K (tOp (rIxL K) te (tC (.int (j : Int)))) σ H (.i (hd.getD j 0)) := fun {te σ H j} q hj => er_numN q er_c (by omega)
  have E2 := e1.trans e2
  have hdw2 := hdw.mono e2
  have few0 := hO.po.few
  refine a_asg (K := K) (d := frD K H2 (sts0.map (fpD K H2))) (Ef.er (Ef.to (ef_lcF (K := K) (G := H2) (its := sts0) (inj := eD) (vs := [15]) (fun _ => true) (fpD K H2) (if_list (ef_place (i := 2) (ds := [.i (z : Int), .s (S mk), .L (stD sts0), .n ev]) (ef_var (i := 1) rfl hdw2) er_c rfl)) (by omega) (fun i p v G' A' g1 g2 hi hv => ⟨_, fun Q q => q, rfl, fun H2 e Q q => q H2 (Ex.refl _), fun _ => Ef.as (ef_new (G := G') (efa_cons (ef_flat (er_place (i := 0) (ds := [.s (S p.1), .s (S p.2)]) (er_var rfl hv) er_c rfl)) (efa_cons (ef_flat (er_place (i := 1) (ds := [.s (S p.1), .s (S p.2)]) (er_var rfl hv) er_c rfl)) efa_nil)) (by simp)) fun Hx v z => by
    obtain ⟨q, us, rfl, z1, z2, z3⟩ := z
    exact ⟨q, us, rfl, ex_out g1 z1, z2, z3⟩⟩)) (by rw [filt_true]))) fun v3 H3 e3 i3 => ?_
  obtain ⟨p, us, rfl, hp0, hp1, hE⟩ := i3
  obtain ⟨lu, hu⟩ := fp_each hE
  have inv0 : Inv2 K H2 p us H3 sts0 := ⟨hp1, lu, fun k q hk => by
    obtain ⟨a, h1, h2, h3⟩ := hu k q hk
    refine ⟨a, h1, h2, fun z => ?_, h3⟩
    rw [z, hp1] at h3
    have q := HO.lst.inj (Option.some.inj h3)
    rw [q] at h1
    cases k with
    | zero => cases h1
    | succ k =>
      cases k with
      | zero => cases h1
      | succ k => cases h1⟩
  have item : ∀ {H1 : Hp} {σ : L2.St} {te : TE} {k : Nat} {a : Addr}, H1 p = some (.lst us) → σ[3]? = some (some (.ref p)) → us[k]? = some (V.ref a) → Er K te σ H1 (.i (k : Int)) → Er K (tOp (rIxL K) (tVar 3) te) σ H1 (.v (.ref a)) := fun {H1 σ te k a} q1 q3 qa qk => by
    have hL : Is K H1 (.L (us.map Dd.v)) (.ref p) := Is.l2L ⟨p, rfl, .inl (.inl q1)⟩
    exact er_place (i := k) (er_var q3 hL) qk (by rw [List.getElem?_map, qa]; rfl)
  refine a_whenR (K := K) (b := decide (hd.getD 2 0 = 0) && decide ((0 : Int) < (sts0.length : Int))) (fun σ' H' => ∃ y4 sts, σ' = [some x, some xd, some vh, some (.ref p), y4, none, none, none, none, none, none, none, none, none, none, none, none, none] ∧ Ex H2 H' ∧ Inv2 K H2 p us H' sts ∧ StkOk z mk sts) (et_an (et1 (er_op (athd (j := 2) (er_var rfl (hh2.mono e3)) (by decide)) er_c ro_eqI)) fun _ => et1 (er_op (Er.to (er_cb (era_cons (er_var rfl inv0.is) era_nil) rc_lenLd) (by rw [stD_len])) er_c ro_I0)) ?_ (fun hr' hb H4 e4 => ?_) (fun hb H4 e4 => ⟨none, sts0, rfl, e3.trans e4, inv0.mono e4, hO⟩)
  · rintro σ' H' ⟨y4, sts, rfl, E, inv, hok⟩
    have hin := inv.is
    have z30 := hok.z30
    have m7 := hok.m7
    have hst := hok.st
    have hdw' := hdw2.mono E
    refine a_asg (K := K) (d := scD z mk sts) (Er.as (Ef.er (ef_N (G := H') (ds := [.i (z : Int), .s (S mk), .L (stD sts)]) (efa_cons (ef_flat (er_place (i := 0) (ds := [.i (z : Int), .s (S mk), .L (stD sts0), .n ev]) (er_var rfl hdw') er_c rfl)) (efa_cons (ef_flat (er_place (i := 1) (ds := [.i (z : Int), .s (S mk), .L (stD sts0), .n ev]) (er_var rfl hdw') er_c rfl)) (efa_cons (ef_var rfl hin) efa_nil))) (by simp))) fun Hx v z' => z'.N2L) fun vsc H5 e5 hsc => ?_
    refine a_asg (K := K) (d := stockC K C (z : Int) sts) (er_call (z, mk, sts) (era_cons (er_var rfl hsc) era_nil) rfl ⟨hok.po, by show z ≤ 1000; omega⟩) fun vst H6 e6 hstk => ?_
    refine a_asg (K := K) (d := .L ((netsM sts z).map rD)) (er_call (sts, z) (era_cons (er_var rfl (hin.mono (e5.trans e6))) (era_cons (er_place (i := 0) (ds := [.i (z : Int), .s (S mk), .L (stD sts0), .n ev]) (er_var rfl (hdw'.mono (e5.trans e6))) er_c rfl) era_nil)) rfl ⟨hst, m7⟩) fun vnt H7 e7 hnt => ?_
    have E7 : Ex H' H7 := (e5.trans e6).trans e7
    have EH7 : Ex H H7 := (E2.trans E).trans E7
    obtain ⟨_, mx2, _, mx4⟩ := turnM_ok (many := sts.length) (row := digM (cellM ns 10) szM) sts.length (Nat.le_refl _)
    refine a_asg (K := K) (d := .n (vis (turnM sts.length (digM (cellM ns 10) szM) sts.length).2)) (er_call (K := K) (sts.length, digM (cellM ns 10) szM) (era_cons (Er.to (er_cb (era_cons (er_var rfl (hin.mono E7)) era_nil) rc_lenLd) (by rw [stD_len])) (era_cons (Er.n2l (er_call (K := K) (cellM ns 10, szM) (era_cons (er_call (K := K) (ns, 10) (era_cons (er_var rfl (hs.mono EH7)) (era_cons er_c era_nil)) rfl ⟨hp, by show 10 ≤ 1000; decide⟩) (era_cons (Er.n2l (er_same (n := 60) (k := 7) er_c (by decide))) era_nil)) rfl szM_ok)) era_nil)) rfl ⟨by show sts.length ≤ (digM (cellM ns 10) szM).length; rw [digM_len]; exact m7, by show sts.length ≤ 1000; omega⟩) fun vmx H8 e8 hmx => ?_
    generalize (turnM sts.length (digM (cellM ns 10) szM) sts.length).2 = mx at mx2 mx4 hmx
    obtain ⟨n1, n2⟩ := mn_eq (hd.getD 0 0).toNat (by omega)
    obtain ⟨many, hmany⟩ : ∃ many, mnL.getD (hd.getD 0 0).toNat 0 = many := ⟨_, rfl⟩
    rw [hmany] at n1 n2
    have E8 := E7.trans e8
    have EH8 := EH7.trans e8
    have hh8 := hh2.mono (E.trans E8)
    refine a_setv (K := K) (x := .int (many : Int)) (Er.to (er_op (er_lst (vs := vis mnI) (by repeat (first | exact era_nil | refine era_cons er_c ?_)) (by decide)) (athd (j := 0) (er_var rfl hh8) (by decide)) (ro_ixIN hd0.1 (by show _ < ((12 : Nat) : Int); exact hd0.2))) (congrArg Dd.i n1)) fun H9 e9 => ?_
    have E9 := E8.trans e9
    have EH9 := EH8.trans e9
    refine a_asg (K := K) (d := .N ((List.range many).map fun _ => sheetD K z)) (Er.to (Ef.er (ef_lc (K := K) (G := H9) (its := List.range many) (inj := fun k : Nat => Dd.i (k : Int)) (vs := [16]) (fun _ => true) (fun _ => sheetD K z) (if_range (era_cons (er_v rfl) era_nil) (by omega)) (by rw [List.length_range]; omega) (fun i k v G' A' g1 g2 hi hv => ?_))) (by rw [filt_true])) fun vsh H10 e10 hsh => ?_
    · obtain rfl : v = V.int (k : Int) := hv
      have hk2 : k < many := by
        have := List.mem_of_getElem? hi
        simpa using this
      refine ⟨_, fun Q q => q, rfl, fun H2 e Q q => q H2 (Ex.refl _), fun _ => ef_call (K := K) (ns, 11 + 2 * k, (z, mk, sts), mx) (efa_cons (ef_var rfl (hs.mono (EH9.trans g1))) (efa_cons (ef_flat (Er.to (er_op er_c (er_op er_c (er_v rfl) (ro_mulL (by decide) (by decide))) ro_I0) (congrArg Dd.i (show (11 : Int) + 2 * (k : Int) = ((11 + 2 * k : Nat) : Int) by omega)))) (efa_cons (ef_var rfl (hsc.mono ((((e6.trans e7).trans e8).trans e9).trans g1))) (efa_cons (Ef.as (ef_var rfl (hmx.mono (e9.trans g1))) fun _ _ z => z.n2l) efa_nil)))) rfl ⟨⟨hp, by show 11 + 2 * k ≤ 900; omega⟩, hok, ⟨by show mx.length ≤ 1000; omega, mx4⟩⟩⟩
    obtain ⟨psh, ush, rfl, hsh1, hshE⟩ := hsh
    obtain ⟨ps, psl, psk, psE⟩ := sheets_ex hshE
    rw [List.length_range] at psl
    have hps : Is K H10 (.L (stD ps)) (.ref psh) := Is.N2L ⟨psh, ush, rfl, hsh1, psE⟩
    have E10 := E9.trans e10
    have nfew : (netsM sts z).length ≤ 5040 := by
      rw [List.length_map]
      exact Nat.le_trans (rows_few (ns := nmV sts) hst.di (by show (sts.map (·.1)).length ≤ 7; rw [List.length_map]; exact m7) _) (Nat.le_refl _)
    have nln : ∀ r ∈ netsM sts z, r.2.length = z := fun r hr => by
      obtain ⟨q, hq, rfl⟩ := List.mem_map.mp hr
      exact netT_len hst (rows_ok (nmV sts) sts.length q hq).sub
    have hnt10 := hnt.mono (((e8.trans e9).trans e10))
    refine a_asg (K := K) (d := .L (ps.map fun p => Dd.l ((flagsM (netsM sts z) p).map V.bl))) (Er.as (Ef.er (ef_lc (K := K) (G := H10) (its := ps) (inj := eD) (vs := [17]) (fun _ => true) (fun p => Dd.n ((flagsM (netsM sts z) p).map V.bl)) (if_list (ef_var (i := 10) rfl hps)) (by omega) (fun i p v G' A' g1 g2 hi hv => ?_))) fun Hx v z' => ?_) fun vfl H11 e11 hfl => ?_
    · have hpk := psk p (List.mem_of_getElem? hi)
      exact ⟨_, fun Q q => q, rfl, fun H2 e Q q => q H2 (Ex.refl _), fun _ => ef_call (K := K) (netsM sts z, p.1, p.2) (efa_cons (ef_var rfl (hnt10.mono g1)) (efa_cons (ef_var rfl hv) efa_nil)) rfl ⟨⟨by show (netsM sts z).length ≤ 10000; omega, fun r hr => by rw [nln r hr, hpk.1.l]⟩, by show p.1.length ≤ 1000; rw [hpk.1.l]; omega, by show p.2.length = p.1.length; rw [hpk.1.l, hpk.2.l]⟩⟩
    · rw [filt_true] at z'
      obtain ⟨q, us2, rfl, h2, h3⟩ := z'
      exact Is.N2L ⟨q, us2, rfl, h2, isE_map (f := fun p => Dd.n ((flagsM (netsM sts z) p).map V.bl)) (g := fun p => Dd.l ((flagsM (netsM sts z) p).map V.bl)) (fun x H v z => z.n2l) h3⟩
    refine a_asg (K := K) (d := lD (List.range many)) (Er.to (er_lcR' (K := K) (n := many) (vs := [16]) (fun k => .int (k : Int)) (era_cons (er_v rfl) era_nil) (by omega) (fun _ => rfl) (fun i H1 e hi => er_v rfl)) (by show Dd.n _ = Dd.n (vis (ivs (List.range many))); rw [vis, ivs, List.map_map]; rfl)) fun val H12 e12 hal => ?_
    have E12 := (E10.trans e11).trans e12
    obtain ⟨al, hal0⟩ : ∃ al, List.range many = al := ⟨_, rfl⟩
    rw [hal0] at hal
    have all4 : al.length ≤ 4 ∧ ∀ k ∈ al, k < many := by
      rw [← hal0]
      exact ⟨by rw [List.length_range]; exact n2, fun k hk => List.mem_range.mp hk⟩
    have vi : ∀ l : List Nat, vis (ivs l) = l.map fun k : Nat => V.int (k : Int) := fun l => by rw [vis, ivs, List.map_map]; rfl
    have nss : ∀ l ∈ ([(al.reverse ++ al.take 1).take 4, al] ++ al.map (fun k => [k]) ++ [al] : List (List Nat)), l.length ≤ 4 ∧ ∀ k ∈ l, k < many := fun l hl => by
      simp only [List.mem_append, List.mem_cons, List.not_mem_nil, or_false, List.mem_map] at hl
      rcases hl with ((rfl | rfl) | ⟨k, hk, rfl⟩) | rfl
      · refine ⟨by rw [List.length_take]; omega, fun k hk => ?_⟩
        rcases List.mem_append.mp (List.mem_of_mem_take hk) with hk | hk
        · exact all4.2 k (List.mem_reverse.mp hk)
        · exact all4.2 k (List.mem_of_mem_take hk)
      · exact all4
      · exact ⟨by simp, fun j hj => by rw [List.mem_singleton.mp hj]; exact all4.2 k hk⟩
      · exact all4
    have eal : ∀ {σ : L2.St} {G : Hp}, σ[12]? = some (some val) → Ex H12 G → Ef K (tVar 12) σ G (lD al) := fun {σ G} q e => ef_var q (hal.mono e)
    refine b_for (K := K) (G := H12) (ds := ([(al.reverse ++ al.take 1).take 4, al] ++ al.map (fun k => [k]) ++ [al] : List (List Nat)).map lD) (if_list (Ef.as (Ef.to (ef_op (ef_op (ef_N (ds := [lD ((al.reverse ++ al.take 1).take 4), lD al]) (efa_cons (Ef.to (ef_slTo (n := 4) (Ef.as (ef_op (ef_revL (Ef.as (eal rfl (Ex.refl _)) fun _ _ z => z.n2l)) (ef_slTo (n := 1) (Ef.as (eal rfl (Ex.refl _)) fun _ _ z => z.n2l) er_c) (rof_cat (by rw [List.length_reverse, List.length_take, vi, List.length_map]; omega))) fun _ _ z => z.n2l) er_c) (by
      show Dd.n _ = Dd.n _
      rw [vi, vi, ← List.map_reverse, ← List.map_take, ← List.map_append, ← List.map_take])) (efa_cons (eal rfl (Ex.refl _)) efa_nil)) (by simp)) (ef_lc (K := K) (G := H12) (its := al) (inj := fun k : Nat => Dd.i (k : Int)) (vs := [16]) (fun _ => true) (fun k => lD [k]) (if_list (Ef.as (eal rfl (Ex.refl _)) fun _ _ z => is_cast z.n2N.N2L (by rw [vi, List.map_map]; rfl))) (by omega) (fun i k v G' A' g1 g2 hi hv => ?_)) (rf_cat (by rw [filt_true]; simp; omega))) (ef_N (ds := [lD al]) (efa_cons (eal rfl (Ex.refl _)) efa_nil) (by simp)) (rf_cat (by rw [filt_true]; simp; omega))) (by rw [filt_true]; simp)) fun _ _ z => z.N2L)) (Ex.refl H12) (fun i σ' G' A' => ∃ y13 y14, σ' = [some x, some xd, some vh, some (.ref p), y4, some vsc, some vst, some vnt, some vmx, some (.int (many : Int)), some (.ref psh), some vfl, some val, y13, y14, none, none, none] ∧ Ex H12 A') (fun G1 A1 s1 => ⟨none, none, rfl, s1.a⟩) ?_ ?_
    · obtain rfl : v = V.int (k : Int) := hv
      exact ⟨_, fun Q q => q, rfl, fun H2 e Q q => q H2 (Ex.refl _), fun _ => ef_lstn (vs := [.int (k : Int)]) (era_cons (er_v rfl) era_nil) (by simp)⟩
    · rintro G1 eg i dd v σ' G' A' G2 A2 hdd ⟨y13, y14, rfl, ea⟩ g3 g4 s2 hv
      obtain ⟨l, hl1, rfl⟩ : ∃ l, ([(al.reverse ++ al.take 1).take 4, al] ++ al.map (fun k => [k]) ++ [al] : List (List Nat))[i]? = some l ∧ lD l = dd := by
        rw [List.getElem?_map] at hdd
        cases q : ([(al.reverse ++ al.take 1).take 4, al] ++ al.map (fun k => [k]) ++ [al] : List (List Nat))[i]? with
        | none => rw [q] at hdd; cases hdd
        | some l => rw [q] at hdd; exact ⟨l, rfl, Option.some.inj hdd⟩
      obtain ⟨l4, lk⟩ := nss l (List.mem_of_getElem? hl1)
      have hl : Is K A2 (lD l) v := hv.mono s2.v
      have F2 : Ex H12 A2 := ea.trans s2.a
      have gp : ∀ k ∈ l, ps[k]? = some (ps.getD k ([], [])) := fun k hk => by
        have := lk k hk
        rw [List.getD_eq_getElem?_getD, List.getElem?_eq_getElem (by omega)]
        rfl
      have qk : ∀ p ∈ l.map (fun k => ps.getD k ([], [])), ShOk z p := fun q hq => by
        obtain ⟨k, hk, rfl⟩ := List.mem_map.mp hq
        exact psk _ (List.mem_of_getElem? (gp k hk))
      have ql : (l.map (fun k => ps.getD k ([], []))).length = l.length := List.length_map ..
      have hqs : PsOk z (l.map fun k => ps.getD k ([], [])) := ⟨by omega, fun q hq => ⟨(qk q hq).1.l, (qk q hq).2.l⟩⟩
      have hqt : TxOk (l.map fun k => ps.getD k ([], [])) := fun q hq => ⟨(qk q hq).1.sg, (qk q hq).2.sg⟩
      have hord := ord_ok hst m7 hqs
      have nums : ∀ {σ : L2.St} {G : Hp}, σ[13]? = some (some v) → Ex A2 G → Itf K (iList K (tVar 13)) σ G (l.map fun k : Nat => Dd.i (k : Int)) := fun {σ G} q e => if_list (Ef.as (ef_var q (hl.mono e)) fun _ _ z => is_cast z.n2N.N2L (by rw [vi, List.map_map]; rfl))
      refine a_asg (K := K) (d := .L ((comM (netsM sts z) ((l.map fun k => ps.getD k ([], [])).map (flagsM (netsM sts z)))).map fun r => Dd.U (tsD r))) (er_call (K := K) (netsM sts z, (l.map fun k => ps.getD k ([], [])).map (flagsM (netsM sts z))) (era_cons (er_var rfl (hnt10.mono ((e11.trans e12).trans F2))) (era_cons (Er.as (Ef.er (ef_lc (K := K) (G := A2) (its := l) (inj := fun k : Nat => Dd.i (k : Int)) (vs := [16]) (fun _ => true) (fun k => Dd.l ((flagsM (netsM sts z) (ps.getD k ([], []))).map V.bl)) (nums rfl (Ex.refl _)) (by omega) (fun i k v G' A' g1 g2 hi hv => ?_))) fun Hx v z' => is_cast z'.N2L (by rw [filt_true, List.map_map, List.map_map]; rfl)) era_nil)) rfl ⟨by show (netsM sts z).length ≤ 10000; omega, by show (List.map _ _).length ≤ 1000; rw [List.length_map, ql]; omega, fun row hrow => by
        obtain ⟨q, hq, rfl⟩ := List.mem_map.mp hrow
        show (flagsM (netsM sts z) q).length = (netsM sts z).length
        rw [flagsM, List.length_map]⟩) fun vor H13 e13 hor => ?_
      · obtain rfl : v = V.int (k : Int) := hv
        have hkm := List.mem_of_getElem? hi
        exact ⟨_, fun Q q => q, rfl, fun H2 e Q q => q H2 (Ex.refl _), fun _ => ef_place (i := k) (ef_var rfl (hfl.mono ((e12.trans F2).trans g1))) (er_v rfl) (by rw [List.getElem?_map, gp k hkm]; rfl)⟩
      have F13 := F2.trans e13
      refine a_when1 (K := K) (b := !true) (et_nt (et2 (er_call (K := K) ((z, sts, l.map fun k => ps.getD k ([], [])), comM (netsM sts z) ((l.map fun k => ps.getD k ([], [])).map (flagsM (netsM sts z))), (hd.getD 1 0).toNat, !decide (ivs l = ivs al)) (era_cons (er_var rfl (hstk.mono ((((((e7.trans e8).trans e9).trans e10).trans e11).trans e12).trans F13))) (era_cons (er_var rfl (hin.mono (E12.trans F13))) (era_cons (er_var rfl hor) (era_cons (Er.as (Ef.er (ef_lc (K := K) (G := H13) (its := l) (inj := fun k : Nat => Dd.i (k : Int)) (vs := [16]) (fun _ => true) (fun k => eD (ps.getD k ([], []))) (nums rfl e13) (by omega) (fun i k v G' A' g1 g2 hi hv => ?_))) fun Hx v z' => is_cast z'.N2L (by rw [filt_true, stD_eq, List.map_map]; rfl)) (era_cons (Er.to (athd (j := 1) (er_var rfl (hh2.mono (E.trans (E12.trans F13)))) (by decide)) (congrArg Dd.i (Int.toNat_of_nonneg hd1.1).symm)) (era_cons (er_op (Er.n2l (er_var rfl (hl.mono e13))) (Er.n2l (er_var rfl (hal.mono F13))) ro_neL) era_nil)))))) rfl ⟨⟨hst, hqs, hqt⟩, hord⟩))) (fun hb => absurd hb (by simp)) fun _ H14 e14 => ?_
      · obtain rfl : v = V.int (k : Int) := hv
        have hkm := List.mem_of_getElem? hi
        exact ⟨_, fun Q q => q, rfl, fun H2 e Q q => q H2 (Ex.refl _), fun _ => ef_place (i := k) (ef_var rfl (hps.mono (((e11.trans e12).trans F13).trans g1))) (er_v rfl) (stD_at (gp k hkm))⟩
      exact ⟨G2, ⟨_, _, rfl, F13.trans e14⟩, g3.trans s2.g, s2.v.trans (e13.trans e14)⟩
    · rintro σ' G' A' eg evv ⟨y13, y14, rfl, ea⟩
      exact a_rete (K := K) er_c rfl (((E2.trans E).trans E12).trans ea) hk
  · rw [Bool.and_eq_true] at hb
    have hlen : 0 < sts0.length := by have := of_decide_eq_true hb.2; omega
    obtain ⟨t1, t2⟩ := mod_nat (a := hd.getD 3 0) (n := sts0.length) hlen
    generalize (hd.getD 3 0 % (sts0.length : Int)).toNat = t at t1 t2
    have inv4 := inv0.mono e4
    have V4 := e3.trans e4
    refine a_setv (K := K) (x := .int (t : Int)) (Er.to (er_op (er_cb (era_cons (athd (j := 3) (er_var rfl (hh2.mono V4)) (by decide)) era_nil) rc_int) (Er.to (er_cb (era_cons (er_var rfl inv4.is) era_nil) rc_lenLd) (by rw [stD_len])) (ro_mod (by omega : (0 : Int) < (sts0.length : Int)))) (congrArg Dd.i t1.symm)) fun H5 e5 => ?_
    have V5 := V4.trans e5
    have inv5 := inv4.mono e5
    have idx : ∀ {σ : L2.St} {H' : Hp} {sts : List (List Nat × List Nat)} {m : Nat}, sts.length = sts0.length → Inv2 K H2 p us H' sts → σ[3]? = some (some (.ref p)) → σ[4]? = some (some (.int (t : Int))) → Er K (tOp (rI (fun _ j => 0 < j) fun i j => .int (i % j)) (tCB rInt1 (tCons (tOp (rI0 fun i j => .int (i + j)) (tVar 4) (tC (.int (m : Int)))) tNil)) (tCB (rLenS K) (tCons (tVar 3) tNil))) σ H' (.i (((t + m) % sts0.length : Nat) : Int)) := fun {σ H' sts m} ql hi q3 q4 => Er.to (er_op (er_cb (era_cons (er_op (er_v q4) er_c ro_I0) era_nil) rc_int) (Er.to (er_cb (era_cons (er_var q3 hi.is) era_nil) rc_lenLd) (by rw [stD_len, ql])) (ro_mod (by omega : (0 : Int) < (sts0.length : Int)))) (congrArg Dd.i (show (((t : Int) + (m : Int)) % (sts0.length : Int)) = _ from rfl))
    have i1 : (t + 1) % sts0.length < sts0.length := Nat.mod_lt _ hlen
    have i2 : (t + 2) % sts0.length < sts0.length := Nat.mod_lt _ hlen
    have gt : sts0[t]? = some sts0[t] := List.getElem?_eq_getElem t2
    have g1 : sts0[(t + 1) % sts0.length]? = some sts0[(t + 1) % sts0.length] := List.getElem?_eq_getElem i1
    obtain ⟨a, a1, a2, a3, a4⟩ := inv5.each t _ gt
    refine a_setixS (K := K) (l := a) (i := 1) (x := .str (S (sts0[(t + 1) % sts0.length]).2)) (er_place (i := 1) (ds := [.s (S (sts0[(t + 1) % sts0.length]).1), .s (S (sts0[(t + 1) % sts0.length]).2)]) (er_place (i := (t + 1) % sts0.length) (er_var rfl inv5.is) (idx (m := 1) rfl inv5 rfl rfl) (stD_at g1)) er_c rfl) (fun H6 e6 => item (e6 p _ inv5.hp) rfl a1 (er_v rfl)) er_c a4 (by simp) fun H6 e6 => ?_
    have inv6 : Inv2 K H2 p us (upd H6 a (.lst [.str (S (sts0[t]).1), .str (S (sts0[(t + 1) % sts0.length]).2)])) (sts0.set t ((sts0[t]).1, (sts0[(t + 1) % sts0.length]).2)) := (inv5.mono e6).set hO.po.di gt a1 a3 (e6 a _ a4)
    have ok6 := hO.set (r := sts0[(t + 1) % sts0.length]) gt (List.getElem_mem i1)
    have V6 : Ex H2 (upd H6 a (.lst [.str (S (sts0[t]).1), .str (S (sts0[(t + 1) % sts0.length]).2)])) := Ex.mut (V5.trans e6) a2
    have l6 : (sts0.set t ((sts0[t]).1, (sts0[(t + 1) % sts0.length]).2)).length = sts0.length := List.length_set
    have V6' : Ex H2 (upd H6 a (.lst ([V.str (S (sts0[t]).1), V.str (S (sts0[t]).2)].set 1 (.str (S (sts0[(t + 1) % sts0.length]).2))))) := V6
    have inv6' : Inv2 K H2 p us (upd H6 a (.lst ([V.str (S (sts0[t]).1), V.str (S (sts0[t]).2)].set 1 (.str (S (sts0[(t + 1) % sts0.length]).2))))) (sts0.set t ((sts0[t]).1, (sts0[(t + 1) % sts0.length]).2)) := inv6
    generalize sts0.set t ((sts0[t]).1, (sts0[(t + 1) % sts0.length]).2) = sts1 at inv6' ok6 l6
    generalize upd H6 a (.lst ([V.str (S (sts0[t]).1), V.str (S (sts0[t]).2)].set 1 (.str (S (sts0[(t + 1) % sts0.length]).2)))) = H7 at inv6' V6'
    refine a_when1 (K := K) (b := decide (hd.getD 3 0 ≥ 40)) (et1 (er_op (athd (j := 3) (er_var rfl (hh2.mono V6')) (by decide)) er_c ro_I0)) (fun hc H8 e8 => ?_) (fun hc H8 e8 => hr' _ _ ⟨_, sts1, rfl, V6'.trans e8, inv6'.mono e8, ok6⟩)
    have inv8 := inv6'.mono e8
    have V8 := V6'.trans e8
    have gt1 : sts1[t]? = some sts1[t] := List.getElem?_eq_getElem (by omega)
    have g2 : sts1[(t + 2) % sts0.length]? = some sts1[(t + 2) % sts0.length] := List.getElem?_eq_getElem (by omega)
    obtain ⟨b, b1, b2, b3, b4⟩ := inv8.each ((t + 2) % sts0.length) _ g2
    refine a_setix (K := K) (l := b) (i := 1) (x := .str (S (sts1[t]).2)) (er_place (i := 1) (ds := [.s (S (sts1[t]).1), .s (S (sts1[t]).2)]) (er_place (i := t) (er_var rfl inv8.is) (er_v rfl) (stD_at gt1)) er_c rfl) (fun H9 e9 => item (e9 p _ inv8.hp) rfl b1 (idx (m := 2) l6 (inv8.mono e9) rfl rfl)) er_c b4 (by simp) fun H9 e9 => ?_
    exact hr' _ _ ⟨_, sts1.set ((t + 2) % sts0.length) ((sts1[(t + 2) % sts0.length]).1, (sts1[t]).2), rfl, Ex.mut (V8.trans e9) b2, (inv8.mono e9).set ok6.po.di g2 b1 b3 (e9 b _ b4), ok6.set (r := sts1[t]) g2 (List.getElem_mem (by omega))⟩
end
end Mi

set_option maxHeartbeats 4000000
namespace Mi
open PySem PySem.Spec PyProof.Rows L2 Evl
theorem at_mk {K : PySem.W.Frag} {h : Heap} {mg : Str → Option Value} {x : Str} {st : Stmt} {ps : List Str} {f : Addr} {od an : Option Addr} {sl : Array (Option Value)} {oc kV dc pm cd ct : Value} (X : K.In h) (G : h.Ns mainGlobals mg)
    (a : PySem.W.nsIn K mainGlobals x = some (some (.ref f))) (l : K.lookup f = some ⟨oc, od, .func (PySem.W.fnOf x x (defArgs st) (defBody st) (defScope st) .none kV dc pm an cd ct), sl⟩) (c : PySem.W.codeIn K cd x = true) (k : PySem.W.keepIn K (.ref f) = true)
    (b0 : ∀ (kV dc pm : Value) (an : Option Addr) (cd ct : Value) (us : List Value), us.length = ps.length → bindArgs (PySem.W.fnOf x x (defArgs st) (defBody st) (defScope st) .none kV dc pm an cd ct) ⟨us, []⟩ = pure (ps.zip us))
    (b1 : ∀ (kV dc pm : Value) (an : Option Addr) (cd ct : Value), ps.length = 1 → ∀ w1 : Value, bindArgs (PySem.W.fnOf x x (defArgs st) (defBody st) (defScope st) .none kV dc pm an cd ct) ⟨[], ps.zip [w1]⟩ = pure (ps.zip [w1]))
    (b2 : ∀ (kV dc pm : Value) (an : Option Addr) (cd ct : Value), ∀ p q, ps = [p, q] → ∀ w1 w2 : Value, bindArgs (PySem.W.fnOf x x (defArgs st) (defBody st) (defScope st) .none kV dc pm an cd ct) ⟨[], [q, p].zip [w1, w2]⟩ = pure ([p, q].zip [w2, w1])) : At K mg x st ps := by
  have F := fun_mk (st := st) l c k
  exact ⟨_, _, PySem.W.mg_of X G a, F, Binds.all (b0 _ _ _ _ _ _), fun e _ w1 => .of_eq (b1 _ _ _ _ _ _ e w1), fun p q e _ w1 w2 => .of_eq (b2 _ _ _ _ _ _ p q e w1 w2)⟩
theorem at_is_layer {K : PySem.W.Frag} {h : Heap} {mg : Str → Option Value} {f : Addr} {od an : Option Addr} {sl : Array (Option Value)} {oc kV dc pm cd ct : Value} (X : K.In h) (G : h.Ns mainGlobals mg) (a : PySem.W.nsIn K mainGlobals "is_layer" = some (some (.ref f))) (l : K.lookup f = some ⟨oc, od, .func (PySem.W.fnOf "is_layer" "is_layer" (defArgs s_is_layer) (defBody s_is_layer) (defScope s_is_layer) .none kV dc pm an cd ct), sl⟩) (c : PySem.W.codeIn K cd "is_layer" = true) (k : PySem.W.keepIn K (.ref f) = true) : At K mg "is_layer" s_is_layer ["value"] :=
  at_mk X G a l c k (fun _ _ _ _ _ _ us hl => match us, hl with | [_], _ => rfl) (fun _ _ _ _ _ _ _ _ => rfl) (fun _ _ _ _ _ _ p q e => by cases e)
theorem at_cells_of {K : PySem.W.Frag} {h : Heap} {mg : Str → Option Value} {f : Addr} {od an : Option Addr} {sl : Array (Option Value)} {oc kV dc pm cd ct : Value} (X : K.In h) (G : h.Ns mainGlobals mg) (a : PySem.W.nsIn K mainGlobals "cells_of" = some (some (.ref f))) (l : K.lookup f = some ⟨oc, od, .func (PySem.W.fnOf "cells_of" "cells_of" (defArgs s_cells_of) (defBody s_cells_of) (defScope s_cells_of) .none kV dc pm an cd ct), sl⟩) (c : PySem.W.codeIn K cd "cells_of" = true) (k : PySem.W.keepIn K (.ref f) = true) : At K mg "cells_of" s_cells_of ["one"] :=
  at_mk X G a l c k (fun _ _ _ _ _ _ us hl => match us, hl with | [_], _ => rfl) (fun _ _ _ _ _ _ _ _ => rfl) (fun _ _ _ _ _ _ p q e => by cases e)
theorem at_agree {K : PySem.W.Frag} {h : Heap} {mg : Str → Option Value} {f : Addr} {od an : Option Addr} {sl : Array (Option Value)} {oc kV dc pm cd ct : Value} (X : K.In h) (G : h.Ns mainGlobals mg) (a : PySem.W.nsIn K mainGlobals "agree" = some (some (.ref f))) (l : K.lookup f = some ⟨oc, od, .func (PySem.W.fnOf "agree" "agree" (defArgs s_agree) (defBody s_agree) (defScope s_agree) .none kV dc pm an cd ct), sl⟩) (c : PySem.W.codeIn K cd "agree" = true) (k : PySem.W.keepIn K (.ref f) = true) : At K mg "agree" s_agree ["one", "two"] :=
  at_mk X G a l c k (fun _ _ _ _ _ _ us hl => match us, hl with | [_, _], _ => rfl) (fun _ _ _ _ _ _ e => absurd e (by decide)) (fun _ _ _ _ _ _ p q e w1 w2 => by cases e; rfl)
theorem at_peeled {K : PySem.W.Frag} {h : Heap} {mg : Str → Option Value} {f : Addr} {od an : Option Addr} {sl : Array (Option Value)} {oc kV dc pm cd ct : Value} (X : K.In h) (G : h.Ns mainGlobals mg) (a : PySem.W.nsIn K mainGlobals "peeled" = some (some (.ref f))) (l : K.lookup f = some ⟨oc, od, .func (PySem.W.fnOf "peeled" "peeled" (defArgs s_peeled) (defBody s_peeled) (defScope s_peeled) .none kV dc pm an cd ct), sl⟩) (c : PySem.W.codeIn K cd "peeled" = true) (k : PySem.W.keepIn K (.ref f) = true) : At K mg "peeled" s_peeled ["left", "stamp"] :=
  at_mk X G a l c k (fun _ _ _ _ _ _ us hl => match us, hl with | [_, _], _ => rfl) (fun _ _ _ _ _ _ e => absurd e (by decide)) (fun _ _ _ _ _ _ p q e w1 w2 => by cases e; rfl)
theorem at_as_tuples {K : PySem.W.Frag} {h : Heap} {mg : Str → Option Value} {f : Addr} {od an : Option Addr} {sl : Array (Option Value)} {oc kV dc pm cd ct : Value} (X : K.In h) (G : h.Ns mainGlobals mg) (a : PySem.W.nsIn K mainGlobals "as_tuples" = some (some (.ref f))) (l : K.lookup f = some ⟨oc, od, .func (PySem.W.fnOf "as_tuples" "as_tuples" (defArgs s_as_tuples) (defBody s_as_tuples) (defScope s_as_tuples) .none kV dc pm an cd ct), sl⟩) (c : PySem.W.codeIn K cd "as_tuples" = true) (k : PySem.W.keepIn K (.ref f) = true) : At K mg "as_tuples" s_as_tuples ["value"] :=
  at_mk X G a l c k (fun _ _ _ _ _ _ us hl => match us, hl with | [_], _ => rfl) (fun _ _ _ _ _ _ _ _ => rfl) (fun _ _ _ _ _ _ p q e => by cases e)
theorem at_is_name {K : PySem.W.Frag} {h : Heap} {mg : Str → Option Value} {f : Addr} {od an : Option Addr} {sl : Array (Option Value)} {oc kV dc pm cd ct : Value} (X : K.In h) (G : h.Ns mainGlobals mg) (a : PySem.W.nsIn K mainGlobals "is_name" = some (some (.ref f))) (l : K.lookup f = some ⟨oc, od, .func (PySem.W.fnOf "is_name" "is_name" (defArgs s_is_name) (defBody s_is_name) (defScope s_is_name) .none kV dc pm an cd ct), sl⟩) (c : PySem.W.codeIn K cd "is_name" = true) (k : PySem.W.keepIn K (.ref f) = true) : At K mg "is_name" s_is_name ["value"] :=
  at_mk X G a l c k (fun _ _ _ _ _ _ us hl => match us, hl with | [_], _ => rfl) (fun _ _ _ _ _ _ _ _ => rfl) (fun _ _ _ _ _ _ p q e => by cases e)
theorem at_is_stamp {K : PySem.W.Frag} {h : Heap} {mg : Str → Option Value} {f : Addr} {od an : Option Addr} {sl : Array (Option Value)} {oc kV dc pm cd ct : Value} (X : K.In h) (G : h.Ns mainGlobals mg) (a : PySem.W.nsIn K mainGlobals "is_stamp" = some (some (.ref f))) (l : K.lookup f = some ⟨oc, od, .func (PySem.W.fnOf "is_stamp" "is_stamp" (defArgs s_is_stamp) (defBody s_is_stamp) (defScope s_is_stamp) .none kV dc pm an cd ct), sl⟩) (c : PySem.W.codeIn K cd "is_stamp" = true) (k : PySem.W.keepIn K (.ref f) = true) : At K mg "is_stamp" s_is_stamp ["value", "size"] :=
  at_mk X G a l c k (fun _ _ _ _ _ _ us hl => match us, hl with | [_, _], _ => rfl) (fun _ _ _ _ _ _ e => absurd e (by decide)) (fun _ _ _ _ _ _ p q e w1 w2 => by cases e; rfl)
theorem at_check_pairs {K : PySem.W.Frag} {h : Heap} {mg : Str → Option Value} {f : Addr} {od an : Option Addr} {sl : Array (Option Value)} {oc kV dc pm cd ct : Value} (X : K.In h) (G : h.Ns mainGlobals mg) (a : PySem.W.nsIn K mainGlobals "check_pairs" = some (some (.ref f))) (l : K.lookup f = some ⟨oc, od, .func (PySem.W.fnOf "check_pairs" "check_pairs" (defArgs s_check_pairs) (defBody s_check_pairs) (defScope s_check_pairs) .none kV dc pm an cd ct), sl⟩) (c : PySem.W.codeIn K cd "check_pairs" = true) (k : PySem.W.keepIn K (.ref f) = true) : At K mg "check_pairs" s_check_pairs ["pairs", "fitting"] :=
  at_mk X G a l c k (fun _ _ _ _ _ _ us hl => match us, hl with | [_, _], _ => rfl) (fun _ _ _ _ _ _ e => absurd e (by decide)) (fun _ _ _ _ _ _ p q e w1 w2 => by cases e; rfl)
theorem at_names_without {K : PySem.W.Frag} {h : Heap} {mg : Str → Option Value} {f : Addr} {od an : Option Addr} {sl : Array (Option Value)} {oc kV dc pm cd ct : Value} (X : K.In h) (G : h.Ns mainGlobals mg) (a : PySem.W.nsIn K mainGlobals "names_without" = some (some (.ref f))) (l : K.lookup f = some ⟨oc, od, .func (PySem.W.fnOf "names_without" "names_without" (defArgs s_names_without) (defBody s_names_without) (defScope s_names_without) .none kV dc pm an cd ct), sl⟩) (c : PySem.W.codeIn K cd "names_without" = true) (k : PySem.W.keepIn K (.ref f) = true) : At K mg "names_without" s_names_without ["names", "name"] :=
  at_mk X G a l c k (fun _ _ _ _ _ _ us hl => match us, hl with | [_, _], _ => rfl) (fun _ _ _ _ _ _ e => absurd e (by decide)) (fun _ _ _ _ _ _ p q e w1 w2 => by cases e; rfl)
theorem at_left_of_all {K : PySem.W.Frag} {h : Heap} {mg : Str → Option Value} {f : Addr} {od an : Option Addr} {sl : Array (Option Value)} {oc kV dc pm cd ct : Value} (X : K.In h) (G : h.Ns mainGlobals mg) (a : PySem.W.nsIn K mainGlobals "left_of_all" = some (some (.ref f))) (l : K.lookup f = some ⟨oc, od, .func (PySem.W.fnOf "left_of_all" "left_of_all" (defArgs s_left_of_all) (defBody s_left_of_all) (defScope s_left_of_all) .none kV dc pm an cd ct), sl⟩) (c : PySem.W.codeIn K cd "left_of_all" = true) (k : PySem.W.keepIn K (.ref f) = true) : At K mg "left_of_all" s_left_of_all ["stock", "seen"] :=
  at_mk X G a l c k (fun _ _ _ _ _ _ us hl => match us, hl with | [_, _], _ => rfl) (fun _ _ _ _ _ _ e => absurd e (by decide)) (fun _ _ _ _ _ _ p q e w1 w2 => by cases e; rfl)
theorem at_first_on_all {K : PySem.W.Frag} {h : Heap} {mg : Str → Option Value} {f : Addr} {od an : Option Addr} {sl : Array (Option Value)} {oc kV dc pm cd ct : Value} (X : K.In h) (G : h.Ns mainGlobals mg) (a : PySem.W.nsIn K mainGlobals "first_on_all" = some (some (.ref f))) (l : K.lookup f = some ⟨oc, od, .func (PySem.W.fnOf "first_on_all" "first_on_all" (defArgs s_first_on_all) (defBody s_first_on_all) (defScope s_first_on_all) .none kV dc pm an cd ct), sl⟩) (c : PySem.W.codeIn K cd "first_on_all" = true) (k : PySem.W.keepIn K (.ref f) = true) : At K mg "first_on_all" s_first_on_all ["stock", "lefts", "names"] :=
  at_mk X G a l c k (fun _ _ _ _ _ _ us hl => match us, hl with | [_, _, _], _ => rfl) (fun _ _ _ _ _ _ e => absurd e (by decide)) (fun _ _ _ _ _ _ p q e => by cases e)
theorem at_stuck_jointly {K : PySem.W.Frag} {h : Heap} {mg : Str → Option Value} {f : Addr} {od an : Option Addr} {sl : Array (Option Value)} {oc kV dc pm cd ct : Value} (X : K.In h) (G : h.Ns mainGlobals mg) (a : PySem.W.nsIn K mainGlobals "stuck_jointly" = some (some (.ref f))) (l : K.lookup f = some ⟨oc, od, .func (PySem.W.fnOf "stuck_jointly" "stuck_jointly" (defArgs s_stuck_jointly) (defBody s_stuck_jointly) (defScope s_stuck_jointly) .none kV dc pm an cd ct), sl⟩) (c : PySem.W.codeIn K cd "stuck_jointly" = true) (k : PySem.W.keepIn K (.ref f) = true) : At K mg "stuck_jointly" s_stuck_jointly ["stock", "lefts", "names"] :=
  at_mk X G a l c k (fun _ _ _ _ _ _ us hl => match us, hl with | [_, _, _], _ => rfl) (fun _ _ _ _ _ _ e => absurd e (by decide)) (fun _ _ _ _ _ _ p q e => by cases e)
theorem at_common_stuck {K : PySem.W.Frag} {h : Heap} {mg : Str → Option Value} {f : Addr} {od an : Option Addr} {sl : Array (Option Value)} {oc kV dc pm cd ct : Value} (X : K.In h) (G : h.Ns mainGlobals mg) (a : PySem.W.nsIn K mainGlobals "common_stuck" = some (some (.ref f))) (l : K.lookup f = some ⟨oc, od, .func (PySem.W.fnOf "common_stuck" "common_stuck" (defArgs s_common_stuck) (defBody s_common_stuck) (defScope s_common_stuck) .none kV dc pm an cd ct), sl⟩) (c : PySem.W.codeIn K cd "common_stuck" = true) (k : PySem.W.keepIn K (.ref f) = true) : At K mg "common_stuck" s_common_stuck ["stock", "pairs"] :=
  at_mk X G a l c k (fun _ _ _ _ _ _ us hl => match us, hl with | [_, _], _ => rfl) (fun _ _ _ _ _ _ e => absurd e (by decide)) (fun _ _ _ _ _ _ p q e w1 w2 => by cases e; rfl)
theorem at_first_to_press {K : PySem.W.Frag} {h : Heap} {mg : Str → Option Value} {f : Addr} {od an : Option Addr} {sl : Array (Option Value)} {oc kV dc pm cd ct : Value} (X : K.In h) (G : h.Ns mainGlobals mg) (a : PySem.W.nsIn K mainGlobals "first_to_press" = some (some (.ref f))) (l : K.lookup f = some ⟨oc, od, .func (PySem.W.fnOf "first_to_press" "first_to_press" (defArgs s_first_to_press) (defBody s_first_to_press) (defScope s_first_to_press) .none kV dc pm an cd ct), sl⟩) (c : PySem.W.codeIn K cd "first_to_press" = true) (k : PySem.W.keepIn K (.ref f) = true) : At K mg "first_to_press" s_first_to_press ["stock", "layers", "names"] :=
  at_mk X G a l c k (fun _ _ _ _ _ _ us hl => match us, hl with | [_, _, _], _ => rfl) (fun _ _ _ _ _ _ e => absurd e (by decide)) (fun _ _ _ _ _ _ p q e => by cases e)
theorem at_common_order {K : PySem.W.Frag} {h : Heap} {mg : Str → Option Value} {f : Addr} {od an : Option Addr} {sl : Array (Option Value)} {oc kV dc pm cd ct : Value} (X : K.In h) (G : h.Ns mainGlobals mg) (a : PySem.W.nsIn K mainGlobals "common_order" = some (some (.ref f))) (l : K.lookup f = some ⟨oc, od, .func (PySem.W.fnOf "common_order" "common_order" (defArgs s_common_order) (defBody s_common_order) (defScope s_common_order) .none kV dc pm an cd ct), sl⟩) (c : PySem.W.codeIn K cd "common_order" = true) (k : PySem.W.keepIn K (.ref f) = true) : At K mg "common_order" s_common_order ["stock", "pairs"] :=
  at_mk X G a l c k (fun _ _ _ _ _ _ us hl => match us, hl with | [_, _], _ => rfl) (fun _ _ _ _ _ _ e => absurd e (by decide)) (fun _ _ _ _ _ _ p q e w1 w2 => by cases e; rfl)
theorem at__law_cell {K : PySem.W.Frag} {h : Heap} {mg : Str → Option Value} {f : Addr} {od an : Option Addr} {sl : Array (Option Value)} {oc kV dc pm cd ct : Value} (X : K.In h) (G : h.Ns mainGlobals mg) (a : PySem.W.nsIn K mainGlobals "_law_cell" = some (some (.ref f))) (l : K.lookup f = some ⟨oc, od, .func (PySem.W.fnOf "_law_cell" "_law_cell" (defArgs s__law_cell) (defBody s__law_cell) (defScope s__law_cell) .none kV dc pm an cd ct), sl⟩) (c : PySem.W.codeIn K cd "_law_cell" = true) (k : PySem.W.keepIn K (.ref f) = true) : At K mg "_law_cell" s__law_cell ["script", "k"] :=
  at_mk X G a l c k (fun _ _ _ _ _ _ us hl => match us, hl with | [_, _], _ => rfl) (fun _ _ _ _ _ _ e => absurd e (by decide)) (fun _ _ _ _ _ _ p q e w1 w2 => by cases e; rfl)
theorem at__law_digits {K : PySem.W.Frag} {h : Heap} {mg : Str → Option Value} {f : Addr} {od an : Option Addr} {sl : Array (Option Value)} {oc kV dc pm cd ct : Value} (X : K.In h) (G : h.Ns mainGlobals mg) (a : PySem.W.nsIn K mainGlobals "_law_digits" = some (some (.ref f))) (l : K.lookup f = some ⟨oc, od, .func (PySem.W.fnOf "_law_digits" "_law_digits" (defArgs s__law_digits) (defBody s__law_digits) (defScope s__law_digits) .none kV dc pm an cd ct), sl⟩) (c : PySem.W.codeIn K cd "_law_digits" = true) (k : PySem.W.keepIn K (.ref f) = true) : At K mg "_law_digits" s__law_digits ["cell", "sizes"] :=
  at_mk X G a l c k (fun _ _ _ _ _ _ us hl => match us, hl with | [_, _], _ => rfl) (fun _ _ _ _ _ _ e => absurd e (by decide)) (fun _ _ _ _ _ _ p q e w1 w2 => by cases e; rfl)
theorem at__law_marks {K : PySem.W.Frag} {h : Heap} {mg : Str → Option Value} {f : Addr} {od an : Option Addr} {sl : Array (Option Value)} {oc kV dc pm cd ct : Value} (X : K.In h) (G : h.Ns mainGlobals mg) (a : PySem.W.nsIn K mainGlobals "_law_marks" = some (some (.ref f))) (l : K.lookup f = some ⟨oc, od, .func (PySem.W.fnOf "_law_marks" "_law_marks" (defArgs s__law_marks) (defBody s__law_marks) (defScope s__law_marks) .none kV dc pm an cd ct), sl⟩) (c : PySem.W.codeIn K cd "_law_marks" = true) (k : PySem.W.keepIn K (.ref f) = true) : At K mg "_law_marks" s__law_marks ["row"] :=
  at_mk X G a l c k (fun _ _ _ _ _ _ us hl => match us, hl with | [_], _ => rfl) (fun _ _ _ _ _ _ _ _ => rfl) (fun _ _ _ _ _ _ p q e => by cases e)
theorem at__law_stamp {K : PySem.W.Frag} {h : Heap} {mg : Str → Option Value} {f : Addr} {od an : Option Addr} {sl : Array (Option Value)} {oc kV dc pm cd ct : Value} (X : K.In h) (G : h.Ns mainGlobals mg) (a : PySem.W.nsIn K mainGlobals "_law_stamp" = some (some (.ref f))) (l : K.lookup f = some ⟨oc, od, .func (PySem.W.fnOf "_law_stamp" "_law_stamp" (defArgs s__law_stamp) (defBody s__law_stamp) (defScope s__law_stamp) .none kV dc pm an cd ct), sl⟩) (c : PySem.W.codeIn K cd "_law_stamp" = true) (k : PySem.W.keepIn K (.ref f) = true) : At K mg "_law_stamp" s__law_stamp ["marks", "row", "dashes"] :=
  at_mk X G a l c k (fun _ _ _ _ _ _ us hl => match us, hl with | [_, _, _], _ => rfl) (fun _ _ _ _ _ _ e => absurd e (by decide)) (fun _ _ _ _ _ _ p q e => by cases e)
theorem at__law_words {K : PySem.W.Frag} {h : Heap} {mg : Str → Option Value} {f : Addr} {od an : Option Addr} {sl : Array (Option Value)} {oc kV dc pm cd ct : Value} (X : K.In h) (G : h.Ns mainGlobals mg) (a : PySem.W.nsIn K mainGlobals "_law_words" = some (some (.ref f))) (l : K.lookup f = some ⟨oc, od, .func (PySem.W.fnOf "_law_words" "_law_words" (defArgs s__law_words) (defBody s__law_words) (defScope s__law_words) .none kV dc pm an cd ct), sl⟩) (c : PySem.W.codeIn K cd "_law_words" = true) (k : PySem.W.keepIn K (.ref f) = true) : At K mg "_law_words" s__law_words ["row"] :=
  at_mk X G a l c k (fun _ _ _ _ _ _ us hl => match us, hl with | [_], _ => rfl) (fun _ _ _ _ _ _ _ _ => rfl) (fun _ _ _ _ _ _ p q e => by cases e)
theorem at__law_stock {K : PySem.W.Frag} {h : Heap} {mg : Str → Option Value} {f : Addr} {od an : Option Addr} {sl : Array (Option Value)} {oc kV dc pm cd ct : Value} (X : K.In h) (G : h.Ns mainGlobals mg) (a : PySem.W.nsIn K mainGlobals "_law_stock" = some (some (.ref f))) (l : K.lookup f = some ⟨oc, od, .func (PySem.W.fnOf "_law_stock" "_law_stock" (defArgs s__law_stock) (defBody s__law_stock) (defScope s__law_stock) .none kV dc pm an cd ct), sl⟩) (c : PySem.W.codeIn K cd "_law_stock" = true) (k : PySem.W.keepIn K (.ref f) = true) : At K mg "_law_stock" s__law_stock ["script", "at", "upto"] :=
  at_mk X G a l c k (fun _ _ _ _ _ _ us hl => match us, hl with | [_, _, _], _ => rfl) (fun _ _ _ _ _ _ e => absurd e (by decide)) (fun _ _ _ _ _ _ p q e => by cases e)
theorem at__law_press {K : PySem.W.Frag} {h : Heap} {mg : Str → Option Value} {f : Addr} {od an : Option Addr} {sl : Array (Option Value)} {oc kV dc pm cd ct : Value} (X : K.In h) (G : h.Ns mainGlobals mg) (a : PySem.W.nsIn K mainGlobals "_law_press" = some (some (.ref f))) (l : K.lookup f = some ⟨oc, od, .func (PySem.W.fnOf "_law_press" "_law_press" (defArgs s__law_press) (defBody s__law_press) (defScope s__law_press) .none kV dc pm an cd ct), sl⟩) (c : PySem.W.codeIn K cd "_law_press" = true) (k : PySem.W.keepIn K (.ref f) = true) : At K mg "_law_press" s__law_press ["under", "over"] :=
  at_mk X G a l c k (fun _ _ _ _ _ _ us hl => match us, hl with | [_, _], _ => rfl) (fun _ _ _ _ _ _ e => absurd e (by decide)) (fun _ _ _ _ _ _ p q e w1 w2 => by cases e; rfl)
theorem at__law_agree {K : PySem.W.Frag} {h : Heap} {mg : Str → Option Value} {f : Addr} {od an : Option Addr} {sl : Array (Option Value)} {oc kV dc pm cd ct : Value} (X : K.In h) (G : h.Ns mainGlobals mg) (a : PySem.W.nsIn K mainGlobals "_law_agree" = some (some (.ref f))) (l : K.lookup f = some ⟨oc, od, .func (PySem.W.fnOf "_law_agree" "_law_agree" (defArgs s__law_agree) (defBody s__law_agree) (defScope s__law_agree) .none kV dc pm an cd ct), sl⟩) (c : PySem.W.codeIn K cd "_law_agree" = true) (k : PySem.W.keepIn K (.ref f) = true) : At K mg "_law_agree" s__law_agree ["left", "right"] :=
  at_mk X G a l c k (fun _ _ _ _ _ _ us hl => match us, hl with | [_, _], _ => rfl) (fun _ _ _ _ _ _ e => absurd e (by decide)) (fun _ _ _ _ _ _ p q e w1 w2 => by cases e; rfl)
theorem at__law_free {K : PySem.W.Frag} {h : Heap} {mg : Str → Option Value} {f : Addr} {od an : Option Addr} {sl : Array (Option Value)} {oc kV dc pm cd ct : Value} (X : K.In h) (G : h.Ns mainGlobals mg) (a : PySem.W.nsIn K mainGlobals "_law_free" = some (some (.ref f))) (l : K.lookup f = some ⟨oc, od, .func (PySem.W.fnOf "_law_free" "_law_free" (defArgs s__law_free) (defBody s__law_free) (defScope s__law_free) .none kV dc pm an cd ct), sl⟩) (c : PySem.W.codeIn K cd "_law_free" = true) (k : PySem.W.keepIn K (.ref f) = true) : At K mg "_law_free" s__law_free ["left", "cover"] :=
  at_mk X G a l c k (fun _ _ _ _ _ _ us hl => match us, hl with | [_, _], _ => rfl) (fun _ _ _ _ _ _ e => absurd e (by decide)) (fun _ _ _ _ _ _ p q e w1 w2 => by cases e; rfl)
theorem at__law_pressed {K : PySem.W.Frag} {h : Heap} {mg : Str → Option Value} {f : Addr} {od an : Option Addr} {sl : Array (Option Value)} {oc kV dc pm cd ct : Value} (X : K.In h) (G : h.Ns mainGlobals mg) (a : PySem.W.nsIn K mainGlobals "_law_pressed" = some (some (.ref f))) (l : K.lookup f = some ⟨oc, od, .func (PySem.W.fnOf "_law_pressed" "_law_pressed" (defArgs s__law_pressed) (defBody s__law_pressed) (defScope s__law_pressed) .none kV dc pm an cd ct), sl⟩) (c : PySem.W.codeIn K cd "_law_pressed" = true) (k : PySem.W.keepIn K (.ref f) = true) : At K mg "_law_pressed" s__law_pressed ["layer", "entries"] :=
  at_mk X G a l c k (fun _ _ _ _ _ _ us hl => match us, hl with | [_, _], _ => rfl) (fun _ _ _ _ _ _ e => absurd e (by decide)) (fun _ _ _ _ _ _ p q e w1 w2 => by cases e; rfl)
theorem at__law_sheet {K : PySem.W.Frag} {h : Heap} {mg : Str → Option Value} {f : Addr} {od an : Option Addr} {sl : Array (Option Value)} {oc kV dc pm cd ct : Value} (X : K.In h) (G : h.Ns mainGlobals mg) (a : PySem.W.nsIn K mainGlobals "_law_sheet" = some (some (.ref f))) (l : K.lookup f = some ⟨oc, od, .func (PySem.W.fnOf "_law_sheet" "_law_sheet" (defArgs s__law_sheet) (defBody s__law_sheet) (defScope s__law_sheet) .none kV dc pm an cd ct), sl⟩) (c : PySem.W.codeIn K cd "_law_sheet" = true) (k : PySem.W.keepIn K (.ref f) = true) : At K mg "_law_sheet" s__law_sheet ["marks", "row", "size"] :=
  at_mk X G a l c k (fun _ _ _ _ _ _ us hl => match us, hl with | [_, _, _], _ => rfl) (fun _ _ _ _ _ _ e => absurd e (by decide)) (fun _ _ _ _ _ _ p q e => by cases e)
theorem at__law_dashed {K : PySem.W.Frag} {h : Heap} {mg : Str → Option Value} {f : Addr} {od an : Option Addr} {sl : Array (Option Value)} {oc kV dc pm cd ct : Value} (X : K.In h) (G : h.Ns mainGlobals mg) (a : PySem.W.nsIn K mainGlobals "_law_dashed" = some (some (.ref f))) (l : K.lookup f = some ⟨oc, od, .func (PySem.W.fnOf "_law_dashed" "_law_dashed" (defArgs s__law_dashed) (defBody s__law_dashed) (defScope s__law_dashed) .none kV dc pm an cd ct), sl⟩) (c : PySem.W.codeIn K cd "_law_dashed" = true) (k : PySem.W.keepIn K (.ref f) = true) : At K mg "_law_dashed" s__law_dashed ["layer", "row", "much"] :=
  at_mk X G a l c k (fun _ _ _ _ _ _ us hl => match us, hl with | [_, _, _], _ => rfl) (fun _ _ _ _ _ _ e => absurd e (by decide)) (fun _ _ _ _ _ _ p q e => by cases e)
theorem at__law_turned {K : PySem.W.Frag} {h : Heap} {mg : Str → Option Value} {f : Addr} {od an : Option Addr} {sl : Array (Option Value)} {oc kV dc pm cd ct : Value} (X : K.In h) (G : h.Ns mainGlobals mg) (a : PySem.W.nsIn K mainGlobals "_law_turned" = some (some (.ref f))) (l : K.lookup f = some ⟨oc, od, .func (PySem.W.fnOf "_law_turned" "_law_turned" (defArgs s__law_turned) (defBody s__law_turned) (defScope s__law_turned) .none kV dc pm an cd ct), sl⟩) (c : PySem.W.codeIn K cd "_law_turned" = true) (k : PySem.W.keepIn K (.ref f) = true) : At K mg "_law_turned" s__law_turned ["many", "row"] :=
  at_mk X G a l c k (fun _ _ _ _ _ _ us hl => match us, hl with | [_, _], _ => rfl) (fun _ _ _ _ _ _ e => absurd e (by decide)) (fun _ _ _ _ _ _ p q e w1 w2 => by cases e; rfl)
theorem at__law_spoilt {K : PySem.W.Frag} {h : Heap} {mg : Str → Option Value} {f : Addr} {od an : Option Addr} {sl : Array (Option Value)} {oc kV dc pm cd ct : Value} (X : K.In h) (G : h.Ns mainGlobals mg) (a : PySem.W.nsIn K mainGlobals "_law_spoilt" = some (some (.ref f))) (l : K.lookup f = some ⟨oc, od, .func (PySem.W.fnOf "_law_spoilt" "_law_spoilt" (defArgs s__law_spoilt) (defBody s__law_spoilt) (defScope s__law_spoilt) .none kV dc pm an cd ct), sl⟩) (c : PySem.W.codeIn K cd "_law_spoilt" = true) (k : PySem.W.keepIn K (.ref f) = true) : At K mg "_law_spoilt" s__law_spoilt ["layer", "marks", "cell", "turn"] :=
  at_mk X G a l c k (fun _ _ _ _ _ _ us hl => match us, hl with | [_, _, _, _], _ => rfl) (fun _ _ _ _ _ _ e => absurd e (by decide)) (fun _ _ _ _ _ _ p q e => by cases e)
theorem at__law_store {K : PySem.W.Frag} {h : Heap} {mg : Str → Option Value} {f : Addr} {od an : Option Addr} {sl : Array (Option Value)} {oc kV dc pm cd ct : Value} (X : K.In h) (G : h.Ns mainGlobals mg) (a : PySem.W.nsIn K mainGlobals "_law_store" = some (some (.ref f))) (l : K.lookup f = some ⟨oc, od, .func (PySem.W.fnOf "_law_store" "_law_store" (defArgs s__law_store) (defBody s__law_store) (defScope s__law_store) .none kV dc pm an cd ct), sl⟩) (c : PySem.W.codeIn K cd "_law_store" = true) (k : PySem.W.keepIn K (.ref f) = true) : At K mg "_law_store" s__law_store ["scene"] :=
  at_mk X G a l c k (fun _ _ _ _ _ _ us hl => match us, hl with | [_], _ => rfl) (fun _ _ _ _ _ _ _ _ => rfl) (fun _ _ _ _ _ _ p q e => by cases e)
theorem at__law_texts {K : PySem.W.Frag} {h : Heap} {mg : Str → Option Value} {f : Addr} {od an : Option Addr} {sl : Array (Option Value)} {oc kV dc pm cd ct : Value} (X : K.In h) (G : h.Ns mainGlobals mg) (a : PySem.W.nsIn K mainGlobals "_law_texts" = some (some (.ref f))) (l : K.lookup f = some ⟨oc, od, .func (PySem.W.fnOf "_law_texts" "_law_texts" (defArgs s__law_texts) (defBody s__law_texts) (defScope s__law_texts) .none kV dc pm an cd ct), sl⟩) (c : PySem.W.codeIn K cd "_law_texts" = true) (k : PySem.W.keepIn K (.ref f) = true) : At K mg "_law_texts" s__law_texts ["told", "due"] :=
  at_mk X G a l c k (fun _ _ _ _ _ _ us hl => match us, hl with | [_, _], _ => rfl) (fun _ _ _ _ _ _ e => absurd e (by decide)) (fun _ _ _ _ _ _ p q e w1 w2 => by cases e; rfl)
theorem at__law_nets {K : PySem.W.Frag} {h : Heap} {mg : Str → Option Value} {f : Addr} {od an : Option Addr} {sl : Array (Option Value)} {oc kV dc pm cd ct : Value} (X : K.In h) (G : h.Ns mainGlobals mg) (a : PySem.W.nsIn K mainGlobals "_law_nets" = some (some (.ref f))) (l : K.lookup f = some ⟨oc, od, .func (PySem.W.fnOf "_law_nets" "_law_nets" (defArgs s__law_nets) (defBody s__law_nets) (defScope s__law_nets) .none kV dc pm an cd ct), sl⟩) (c : PySem.W.codeIn K cd "_law_nets" = true) (k : PySem.W.keepIn K (.ref f) = true) : At K mg "_law_nets" s__law_nets ["entries", "size"] :=
  at_mk X G a l c k (fun _ _ _ _ _ _ us hl => match us, hl with | [_, _], _ => rfl) (fun _ _ _ _ _ _ e => absurd e (by decide)) (fun _ _ _ _ _ _ p q e w1 w2 => by cases e; rfl)
theorem at__law_drawn_sheet {K : PySem.W.Frag} {h : Heap} {mg : Str → Option Value} {f : Addr} {od an : Option Addr} {sl : Array (Option Value)} {oc kV dc pm cd ct : Value} (X : K.In h) (G : h.Ns mainGlobals mg) (a : PySem.W.nsIn K mainGlobals "_law_drawn_sheet" = some (some (.ref f))) (l : K.lookup f = some ⟨oc, od, .func (PySem.W.fnOf "_law_drawn_sheet" "_law_drawn_sheet" (defArgs s__law_drawn_sheet) (defBody s__law_drawn_sheet) (defScope s__law_drawn_sheet) .none kV dc pm an cd ct), sl⟩) (c : PySem.W.codeIn K cd "_law_drawn_sheet" = true) (k : PySem.W.keepIn K (.ref f) = true) : At K mg "_law_drawn_sheet" s__law_drawn_sheet ["script", "at", "drawn", "mixed"] :=
  at_mk X G a l c k (fun _ _ _ _ _ _ us hl => match us, hl with | [_, _, _, _], _ => rfl) (fun _ _ _ _ _ _ e => absurd e (by decide)) (fun _ _ _ _ _ _ p q e => by cases e)
theorem at__law_common_stuck {K : PySem.W.Frag} {h : Heap} {mg : Str → Option Value} {f : Addr} {od an : Option Addr} {sl : Array (Option Value)} {oc kV dc pm cd ct : Value} (X : K.In h) (G : h.Ns mainGlobals mg) (a : PySem.W.nsIn K mainGlobals "_law_common_stuck" = some (some (.ref f))) (l : K.lookup f = some ⟨oc, od, .func (PySem.W.fnOf "_law_common_stuck" "_law_common_stuck" (defArgs s__law_common_stuck) (defBody s__law_common_stuck) (defScope s__law_common_stuck) .none kV dc pm an cd ct), sl⟩) (c : PySem.W.codeIn K cd "_law_common_stuck" = true) (k : PySem.W.keepIn K (.ref f) = true) : At K mg "_law_common_stuck" s__law_common_stuck ["entries", "lefts"] :=
  at_mk X G a l c k (fun _ _ _ _ _ _ us hl => match us, hl with | [_, _], _ => rfl) (fun _ _ _ _ _ _ e => absurd e (by decide)) (fun _ _ _ _ _ _ p q e w1 w2 => by cases e; rfl)
theorem at__law_starts_agree {K : PySem.W.Frag} {h : Heap} {mg : Str → Option Value} {f : Addr} {od an : Option Addr} {sl : Array (Option Value)} {oc kV dc pm cd ct : Value} (X : K.In h) (G : h.Ns mainGlobals mg) (a : PySem.W.nsIn K mainGlobals "_law_starts_agree" = some (some (.ref f))) (l : K.lookup f = some ⟨oc, od, .func (PySem.W.fnOf "_law_starts_agree" "_law_starts_agree" (defArgs s__law_starts_agree) (defBody s__law_starts_agree) (defScope s__law_starts_agree) .none kV dc pm an cd ct), sl⟩) (c : PySem.W.codeIn K cd "_law_starts_agree" = true) (k : PySem.W.keepIn K (.ref f) = true) : At K mg "_law_starts_agree" s__law_starts_agree ["entries", "sheets"] :=
  at_mk X G a l c k (fun _ _ _ _ _ _ us hl => match us, hl with | [_, _], _ => rfl) (fun _ _ _ _ _ _ e => absurd e (by decide)) (fun _ _ _ _ _ _ p q e w1 w2 => by cases e; rfl)
theorem at__law_flags {K : PySem.W.Frag} {h : Heap} {mg : Str → Option Value} {f : Addr} {od an : Option Addr} {sl : Array (Option Value)} {oc kV dc pm cd ct : Value} (X : K.In h) (G : h.Ns mainGlobals mg) (a : PySem.W.nsIn K mainGlobals "_law_flags" = some (some (.ref f))) (l : K.lookup f = some ⟨oc, od, .func (PySem.W.fnOf "_law_flags" "_law_flags" (defArgs s__law_flags) (defBody s__law_flags) (defScope s__law_flags) .none kV dc pm an cd ct), sl⟩) (c : PySem.W.codeIn K cd "_law_flags" = true) (k : PySem.W.keepIn K (.ref f) = true) : At K mg "_law_flags" s__law_flags ["nets", "sheet"] :=
  at_mk X G a l c k (fun _ _ _ _ _ _ us hl => match us, hl with | [_, _], _ => rfl) (fun _ _ _ _ _ _ e => absurd e (by decide)) (fun _ _ _ _ _ _ p q e w1 w2 => by cases e; rfl)
theorem at__law_common {K : PySem.W.Frag} {h : Heap} {mg : Str → Option Value} {f : Addr} {od an : Option Addr} {sl : Array (Option Value)} {oc kV dc pm cd ct : Value} (X : K.In h) (G : h.Ns mainGlobals mg) (a : PySem.W.nsIn K mainGlobals "_law_common" = some (some (.ref f))) (l : K.lookup f = some ⟨oc, od, .func (PySem.W.fnOf "_law_common" "_law_common" (defArgs s__law_common) (defBody s__law_common) (defScope s__law_common) .none kV dc pm an cd ct), sl⟩) (c : PySem.W.codeIn K cd "_law_common" = true) (k : PySem.W.keepIn K (.ref f) = true) : At K mg "_law_common" s__law_common ["nets", "flags"] :=
  at_mk X G a l c k (fun _ _ _ _ _ _ us hl => match us, hl with | [_, _], _ => rfl) (fun _ _ _ _ _ _ e => absurd e (by decide)) (fun _ _ _ _ _ _ p q e w1 w2 => by cases e; rfl)
theorem at__law_given {K : PySem.W.Frag} {h : Heap} {mg : Str → Option Value} {f : Addr} {od an : Option Addr} {sl : Array (Option Value)} {oc kV dc pm cd ct : Value} (X : K.In h) (G : h.Ns mainGlobals mg) (a : PySem.W.nsIn K mainGlobals "_law_given" = some (some (.ref f))) (l : K.lookup f = some ⟨oc, od, .func (PySem.W.fnOf "_law_given" "_law_given" (defArgs s__law_given) (defBody s__law_given) (defScope s__law_given) .none kV dc pm an cd ct), sl⟩) (c : PySem.W.codeIn K cd "_law_given" = true) (k : PySem.W.keepIn K (.ref f) = true) : At K mg "_law_given" s__law_given ["sheets", "turn"] :=
  at_mk X G a l c k (fun _ _ _ _ _ _ us hl => match us, hl with | [_, _], _ => rfl) (fun _ _ _ _ _ _ e => absurd e (by decide)) (fun _ _ _ _ _ _ p q e w1 w2 => by cases e; rfl)
theorem at__law_asked_once {K : PySem.W.Frag} {h : Heap} {mg : Str → Option Value} {f : Addr} {od an : Option Addr} {sl : Array (Option Value)} {oc kV dc pm cd ct : Value} (X : K.In h) (G : h.Ns mainGlobals mg) (a : PySem.W.nsIn K mainGlobals "_law_asked_once" = some (some (.ref f))) (l : K.lookup f = some ⟨oc, od, .func (PySem.W.fnOf "_law_asked_once" "_law_asked_once" (defArgs s__law_asked_once) (defBody s__law_asked_once) (defScope s__law_asked_once) .none kV dc pm an cd ct), sl⟩) (c : PySem.W.codeIn K cd "_law_asked_once" = true) (k : PySem.W.keepIn K (.ref f) = true) : At K mg "_law_asked_once" s__law_asked_once ["store", "entries", "orders", "sheets", "turn", "named"] :=
  at_mk X G a l c k (fun _ _ _ _ _ _ us hl => match us, hl with | [_, _, _, _, _, _], _ => rfl) (fun _ _ _ _ _ _ e => absurd e (by decide)) (fun _ _ _ _ _ _ p q e => by cases e)
theorem at_law {K : PySem.W.Frag} {h : Heap} {mg : Str → Option Value} {f : Addr} {od an : Option Addr} {sl : Array (Option Value)} {oc kV dc pm cd ct : Value} (X : K.In h) (G : h.Ns mainGlobals mg) (a : PySem.W.nsIn K mainGlobals "law" = some (some (.ref f))) (l : K.lookup f = some ⟨oc, od, .func (PySem.W.fnOf "law" "law" (defArgs s_law) (defBody s_law) (defScope s_law) .none kV dc pm an cd ct), sl⟩) (c : PySem.W.codeIn K cd "law" = true) (k : PySem.W.keepIn K (.ref f) = true) : At K mg "law" s_law ["script"] :=
  at_mk X G a l c k (fun _ _ _ _ _ _ us hl => match us, hl with | [_], _ => rfl) (fun _ _ _ _ _ _ _ _ => rfl) (fun _ _ _ _ _ _ p q e => by cases e)
abbrev s_Stock___iter__ : Stmt := inClass (topS 27) 4
theorem sc_Stock___iter__ : FnScope ["self"] ["self"] (defScope s_Stock___iter__) := ⟨rfl, rfl, rfl, by decide +kernel, rfl, by decide +kernel, by decide +kernel⟩

theorem iter_okStock {P : Program} {w : World} {K : PySem.W.Frag} {mg : Str → Option Value} {base : Heap} {f C : Addr} {fd : FuncData} (T : Txt K mg) (TS : StTxt K mg C) (F : Fun K "__iter__" "Stock.__iter__" s_Stock___iter__ f fd) (hi : PySem.W.findIn K (.ref C) "__iter__" = some (some (.ref f))) (hfn : PySem.W.isFn K (.ref f) = true) (hb : Binds K fd ["self"] []) : IterFn P w K mg base 1 f C "stamps" := by
  have sc := sc_Stock___iter__
  refine iter_mk F sc hi hfn TS.cl TS.nT rfl hb fun cdv A outer s H hr => ?_
  exact pss_one (ps_ret (pe_callB cr_iterT (by rfl) T.b_iter (by decide +kernel) (pa_cons (pe_fld (pv 0) rfl) pa_nil)))
end Mi

set_option maxHeartbeats 4000000
namespace Mi
open PySem PySem.Spec PyProof.Rows L2 Evl
theorem fn_all {P : Program} {w : World} {K : PySem.W.Frag} {mg : Str → Option Value} {base : Heap} {f0 C fI fi fC fS fP : Addr} {fd0 fdI fdN fdS fdP : FuncData}  (T : Txt K mg)
    (TS : StTxt K mg C)
    (F : Fun K "law" "law" s_law f0 fd0)
    (FI : Fun K "__init__" "Stock.__init__" s_Stock___init__ fI fdI) (bI : Binds K fdI ["self", "size", "stamps"] [])
    (M_init : Mk K C fI)
    (F_iter : IterFn P w K mg base 1 fi C "stamps")
    (FN : Fun K "__contains__" "Stock.__contains__" s_Stock___contains__ fC fdN) (bN : Binds K fdN ["self", "name"] [])
    (hiN : PySem.W.findIn K (.ref C) "__contains__" = some (some (.ref fC))) (hfN : PySem.W.isFn K (.ref fC) = true)
    (FS : Fun K "stamp" "Stock.stamp" s_Stock_stamp fS fdS) (bS : Binds K fdS ["self", "name"] [])
    (M_stamp : Meth K C "stamp" fS)
    (FP : Fun K "names" "Stock.names" s_Stock_names fP fdP) (bP : Binds K fdP ["self"] [])
    {pP : Addr} (P_names : PropOf K C "names" pP fP)
    (a_is_layer : At K mg "is_layer" s_is_layer ["value"])
    (a_cells_of : At K mg "cells_of" s_cells_of ["one"])
    (a_agree : At K mg "agree" s_agree ["one", "two"])
    (a_peeled : At K mg "peeled" s_peeled ["left", "stamp"])
    (a_as_tuples : At K mg "as_tuples" s_as_tuples ["value"])
    (a_is_name : At K mg "is_name" s_is_name ["value"])
    (a_is_stamp : At K mg "is_stamp" s_is_stamp ["value", "size"])
    (a_check_pairs : At K mg "check_pairs" s_check_pairs ["pairs", "fitting"])
    (a_names_without : At K mg "names_without" s_names_without ["names", "name"])
    (a_left_of_all : At K mg "left_of_all" s_left_of_all ["stock", "seen"])
    (a_first_on_all : At K mg "first_on_all" s_first_on_all ["stock", "lefts", "names"])
    (a_stuck_jointly : At K mg "stuck_jointly" s_stuck_jointly ["stock", "lefts", "names"])
    (a_common_stuck : At K mg "common_stuck" s_common_stuck ["stock", "pairs"])
    (a_first_to_press : At K mg "first_to_press" s_first_to_press ["stock", "layers", "names"])
    (a_common_order : At K mg "common_order" s_common_order ["stock", "pairs"])
    (a__law_cell : At K mg "_law_cell" s__law_cell ["script", "k"])
    (a__law_digits : At K mg "_law_digits" s__law_digits ["cell", "sizes"])
    (a__law_marks : At K mg "_law_marks" s__law_marks ["row"])
    (a__law_stamp : At K mg "_law_stamp" s__law_stamp ["marks", "row", "dashes"])
    (a__law_words : At K mg "_law_words" s__law_words ["row"])
    (a__law_stock : At K mg "_law_stock" s__law_stock ["script", "at", "upto"])
    (a__law_press : At K mg "_law_press" s__law_press ["under", "over"])
    (a__law_agree : At K mg "_law_agree" s__law_agree ["left", "right"])
    (a__law_free : At K mg "_law_free" s__law_free ["left", "cover"])
    (a__law_pressed : At K mg "_law_pressed" s__law_pressed ["layer", "entries"])
    (a__law_sheet : At K mg "_law_sheet" s__law_sheet ["marks", "row", "size"])
    (a__law_dashed : At K mg "_law_dashed" s__law_dashed ["layer", "row", "much"])
    (a__law_turned : At K mg "_law_turned" s__law_turned ["many", "row"])
    (a__law_spoilt : At K mg "_law_spoilt" s__law_spoilt ["layer", "marks", "cell", "turn"])
    (a__law_store : At K mg "_law_store" s__law_store ["scene"])
    (a__law_texts : At K mg "_law_texts" s__law_texts ["told", "due"])
    (a__law_nets : At K mg "_law_nets" s__law_nets ["entries", "size"])
    (a__law_drawn_sheet : At K mg "_law_drawn_sheet" s__law_drawn_sheet ["script", "at", "drawn", "mixed"])
    (a__law_common_stuck : At K mg "_law_common_stuck" s__law_common_stuck ["entries", "lefts"])
    (a__law_starts_agree : At K mg "_law_starts_agree" s__law_starts_agree ["entries", "sheets"])
    (a__law_flags : At K mg "_law_flags" s__law_flags ["nets", "sheet"])
    (a__law_common : At K mg "_law_common" s__law_common ["nets", "flags"])
    (a__law_given : At K mg "_law_given" s__law_given ["sheets", "turn"])
    (a__law_asked_once : At K mg "_law_asked_once" s__law_asked_once ["store", "entries", "orders", "sheets", "turn", "named"])
    : FnOk P w K mg base CX0 8 f0 fd0 ["script"] (spLaw K) := by
  have C_is_layer := has_is_layer (P := P) (w := w) (base := base) T a_is_layer
  have C_cells_of := has_cells_of (P := P) (w := w) (base := base) T a_cells_of
  have C_agree := has_agree (P := P) (w := w) (base := base) T a_agree
  have C_peeled := has_peeled (P := P) (w := w) (base := base) T a_peeled
  have C_as_tuples := has_as_tuples (P := P) (w := w) (base := base) T a_as_tuples 3
  have C_is_name := has_is_name (P := P) (w := w) (base := base) T a_is_name
  have C_is_stamp := has_is_stamp (P := P) (w := w) (base := base) T a_is_stamp C_is_layer C_cells_of
  have C_check_pairs := has_check_pairs (P := P) (w := w) (base := base) T a_check_pairs C_is_name
  have C_names_without := has_names_without (P := P) (w := w) (base := base) T a_names_without
  have C_left_of_all := has_left_of_all (P := P) (w := w) (base := base) T a_left_of_all F_iter C_peeled
  have C__law_cell := has__law_cell (P := P) (w := w) (base := base) T a__law_cell
  have C__law_digits := has__law_digits (P := P) (w := w) (base := base) T a__law_digits
  have C__law_marks := has__law_marks (P := P) (w := w) (base := base) T a__law_marks
  have C__law_stamp := has__law_stamp (P := P) (w := w) (base := base) T a__law_stamp
  have C__law_words := has__law_words (P := P) (w := w) (base := base) T a__law_words
  have C__law_press := has__law_press (P := P) (w := w) (base := base) T a__law_press
  have C__law_agree := has__law_agree (P := P) (w := w) (base := base) T a__law_agree
  have C__law_free := has__law_free (P := P) (w := w) (base := base) T a__law_free
  have C__law_pressed := has__law_pressed (P := P) (w := w) (base := base) T a__law_pressed C__law_press
  have C__law_sheet := has__law_sheet (P := P) (w := w) (base := base) T a__law_sheet
  have C__law_dashed := has__law_dashed (P := P) (w := w) (base := base) T a__law_dashed
  have C__law_turned := has__law_turned (P := P) (w := w) (base := base) T a__law_turned
  have C__law_spoilt := has__law_spoilt (P := P) (w := w) (base := base) T a__law_spoilt
  have C__law_texts := has__law_texts (P := P) (w := w) (base := base) T a__law_texts
  have C__law_nets := has__law_nets (P := P) (w := w) (base := base) T a__law_nets C__law_press
  have C__law_drawn_sheet := has__law_drawn_sheet (P := P) (w := w) (base := base) T a__law_drawn_sheet C__law_cell C__law_digits C__law_turned C__law_sheet C__law_pressed C__law_spoilt C__law_dashed
  have C__law_common_stuck := has__law_common_stuck (P := P) (w := w) (base := base) T a__law_common_stuck C__law_free C__law_agree
  have C__law_starts_agree := has__law_starts_agree (P := P) (w := w) (base := base) T a__law_starts_agree C__law_free C__law_agree
  have C__law_flags := has__law_flags (P := P) (w := w) (base := base) T a__law_flags C__law_press C__law_agree
  have C__law_common := has__law_common (P := P) (w := w) (base := base) T a__law_common
  have C__law_given := has__law_given (P := P) (w := w) (base := base) T a__law_given
  have C__law_digitsF := has__law_digitsF (P := P) (w := w) (base := base) T a__law_digits
  have F_init := ok_init (P := P) (w := w) (base := base) FI T TS C_as_tuples C_is_stamp C_check_pairs
  have F_contains := ok_contains (P := P) (w := w) (base := base) FN T TS
  have F_stamp := ok_stamp (P := P) (w := w) (base := base) FS T TS hiN hfN F_contains bN
  have F_names := ok_names (P := P) (w := w) (base := base) FP T TS
  have C_first_on_all := has_first_on_all (P := P) (w := w) (base := base) T TS a_first_on_all C_agree M_stamp F_stamp bS
  have C_stuck_jointly := has_stuck_jointly (P := P) (w := w) (base := base) T TS a_stuck_jointly C_first_on_all C_peeled C_names_without M_stamp F_stamp bS
  have C_common_stuck := has_common_stuck (P := P) (w := w) (base := base) T TS a_common_stuck C_stuck_jointly P_names F_names bP
  have C_first_to_press := has_first_to_press (P := P) (w := w) (base := base) T a_first_to_press C_stuck_jointly C_names_without
  have C_common_order := has_common_order (P := P) (w := w) (base := base) T TS a_common_order C_common_stuck C_agree C_left_of_all C_first_to_press C_names_without P_names F_names bP
  have C__law_stock := has__law_stock (P := P) (w := w) (base := base) T a__law_stock C__law_cell C__law_digitsF C__law_words C__law_marks C__law_stamp
  have C__law_store := has__law_store (P := P) (w := w) (base := base) T TS a__law_store M_init F_init bI
  have C__law_asked_once := has__law_asked_once (P := P) (w := w) (base := base) T a__law_asked_once C__law_given C_common_order C_common_stuck C__law_common_stuck C__law_texts C__law_starts_agree
  exact fn_law T F C__law_stock C__law_cell C__law_digits C__law_store C__law_nets C__law_turned C__law_drawn_sheet C__law_flags C__law_common C__law_asked_once
theorem no_str {K : PySem.W.Frag} {C : Addr} (h : PySem.W.mroIn K C (.type "str") = some false) : PySem.W.kitOne K (.ref C) (.type "str") = some false := by
  unfold PySem.W.kitOne
  have e : (Value.ref C == Value.type "str") = false := rfl
  rw [e, if_neg Bool.false_ne_true]
  show (if PySem.W.kitMeta "str" = true then PySem.W.subIn K (.ref C) (.type "str") else none) = _
  rw [if_pos (by decide)]
  unfold PySem.W.subIn
  exact h

theorem all_mk {l : PySem.W.OpenLaw} {w : World} {K : PySem.W.Frag} {h : Heap} {mg : Str → Option Value} {fa C fI fi fC fS fP : Addr} {tD tL tM tG : Tok} {nL nN : Tok} {xD xL xM xG : Str} (X : K.In h) (G : h.Ns mainGlobals mg) (hfa : mg "law" = some (.ref fa))
    {f0 : Addr} {od0 an0 : Option Addr} {sl0 : Array (Option Value)} {oc0 kV0 dc0 pm0 cd0 ct0 : Value}
    {f1 : Addr} {od1 an1 : Option Addr} {sl1 : Array (Option Value)} {oc1 kV1 dc1 pm1 cd1 ct1 : Value}
    {f2 : Addr} {od2 an2 : Option Addr} {sl2 : Array (Option Value)} {oc2 kV2 dc2 pm2 cd2 ct2 : Value}
    {f3 : Addr} {od3 an3 : Option Addr} {sl3 : Array (Option Value)} {oc3 kV3 dc3 pm3 cd3 ct3 : Value}
    {f4 : Addr} {od4 an4 : Option Addr} {sl4 : Array (Option Value)} {oc4 kV4 dc4 pm4 cd4 ct4 : Value}
    {f5 : Addr} {od5 an5 : Option Addr} {sl5 : Array (Option Value)} {oc5 kV5 dc5 pm5 cd5 ct5 : Value}
    {f6 : Addr} {od6 an6 : Option Addr} {sl6 : Array (Option Value)} {oc6 kV6 dc6 pm6 cd6 ct6 : Value}
    {f7 : Addr} {od7 an7 : Option Addr} {sl7 : Array (Option Value)} {oc7 kV7 dc7 pm7 cd7 ct7 : Value}
    {f8 : Addr} {od8 an8 : Option Addr} {sl8 : Array (Option Value)} {oc8 kV8 dc8 pm8 cd8 ct8 : Value}
    {f9 : Addr} {od9 an9 : Option Addr} {sl9 : Array (Option Value)} {oc9 kV9 dc9 pm9 cd9 ct9 : Value}
    {f10 : Addr} {od10 an10 : Option Addr} {sl10 : Array (Option Value)} {oc10 kV10 dc10 pm10 cd10 ct10 : Value}
    {f11 : Addr} {od11 an11 : Option Addr} {sl11 : Array (Option Value)} {oc11 kV11 dc11 pm11 cd11 ct11 : Value}
    {f12 : Addr} {od12 an12 : Option Addr} {sl12 : Array (Option Value)} {oc12 kV12 dc12 pm12 cd12 ct12 : Value}
    {f13 : Addr} {od13 an13 : Option Addr} {sl13 : Array (Option Value)} {oc13 kV13 dc13 pm13 cd13 ct13 : Value}
    {f14 : Addr} {od14 an14 : Option Addr} {sl14 : Array (Option Value)} {oc14 kV14 dc14 pm14 cd14 ct14 : Value}
    {f15 : Addr} {od15 an15 : Option Addr} {sl15 : Array (Option Value)} {oc15 kV15 dc15 pm15 cd15 ct15 : Value}
    {f16 : Addr} {od16 an16 : Option Addr} {sl16 : Array (Option Value)} {oc16 kV16 dc16 pm16 cd16 ct16 : Value}
    {f17 : Addr} {od17 an17 : Option Addr} {sl17 : Array (Option Value)} {oc17 kV17 dc17 pm17 cd17 ct17 : Value}
    {f18 : Addr} {od18 an18 : Option Addr} {sl18 : Array (Option Value)} {oc18 kV18 dc18 pm18 cd18 ct18 : Value}
    {f19 : Addr} {od19 an19 : Option Addr} {sl19 : Array (Option Value)} {oc19 kV19 dc19 pm19 cd19 ct19 : Value}
    {f20 : Addr} {od20 an20 : Option Addr} {sl20 : Array (Option Value)} {oc20 kV20 dc20 pm20 cd20 ct20 : Value}
    {f21 : Addr} {od21 an21 : Option Addr} {sl21 : Array (Option Value)} {oc21 kV21 dc21 pm21 cd21 ct21 : Value}
    {f22 : Addr} {od22 an22 : Option Addr} {sl22 : Array (Option Value)} {oc22 kV22 dc22 pm22 cd22 ct22 : Value}
    {f23 : Addr} {od23 an23 : Option Addr} {sl23 : Array (Option Value)} {oc23 kV23 dc23 pm23 cd23 ct23 : Value}
    {f24 : Addr} {od24 an24 : Option Addr} {sl24 : Array (Option Value)} {oc24 kV24 dc24 pm24 cd24 ct24 : Value}
    {f25 : Addr} {od25 an25 : Option Addr} {sl25 : Array (Option Value)} {oc25 kV25 dc25 pm25 cd25 ct25 : Value}
    {f26 : Addr} {od26 an26 : Option Addr} {sl26 : Array (Option Value)} {oc26 kV26 dc26 pm26 cd26 ct26 : Value}
    {f27 : Addr} {od27 an27 : Option Addr} {sl27 : Array (Option Value)} {oc27 kV27 dc27 pm27 cd27 ct27 : Value}
    {f28 : Addr} {od28 an28 : Option Addr} {sl28 : Array (Option Value)} {oc28 kV28 dc28 pm28 cd28 ct28 : Value}
    {f29 : Addr} {od29 an29 : Option Addr} {sl29 : Array (Option Value)} {oc29 kV29 dc29 pm29 cd29 ct29 : Value}
    {f30 : Addr} {od30 an30 : Option Addr} {sl30 : Array (Option Value)} {oc30 kV30 dc30 pm30 cd30 ct30 : Value}
    {f31 : Addr} {od31 an31 : Option Addr} {sl31 : Array (Option Value)} {oc31 kV31 dc31 pm31 cd31 ct31 : Value}
    {f32 : Addr} {od32 an32 : Option Addr} {sl32 : Array (Option Value)} {oc32 kV32 dc32 pm32 cd32 ct32 : Value}
    {f33 : Addr} {od33 an33 : Option Addr} {sl33 : Array (Option Value)} {oc33 kV33 dc33 pm33 cd33 ct33 : Value}
    {f34 : Addr} {od34 an34 : Option Addr} {sl34 : Array (Option Value)} {oc34 kV34 dc34 pm34 cd34 ct34 : Value}
    {f35 : Addr} {od35 an35 : Option Addr} {sl35 : Array (Option Value)} {oc35 kV35 dc35 pm35 cd35 ct35 : Value}
    {f36 : Addr} {od36 an36 : Option Addr} {sl36 : Array (Option Value)} {oc36 kV36 dc36 pm36 cd36 ct36 : Value}
    {f37 : Addr} {od37 an37 : Option Addr} {sl37 : Array (Option Value)} {oc37 kV37 dc37 pm37 cd37 ct37 : Value}
    {f38 : Addr} {od38 an38 : Option Addr} {sl38 : Array (Option Value)} {oc38 kV38 dc38 pm38 cd38 ct38 : Value}
    {f39 : Addr} {od39 an39 : Option Addr} {sl39 : Array (Option Value)} {oc39 kV39 dc39 pm39 cd39 ct39 : Value}
    {odI anI : Option Addr} {slI : Array (Option Value)} {ocI kVI dcI pmI cdI ctI : Value}
    {odJ anJ : Option Addr} {slJ : Array (Option Value)} {ocJ kVJ dcJ pmJ cdJ ctJ : Value}
    {odN anN : Option Addr} {slN : Array (Option Value)} {ocN kVN dcN pmN cdN ctN : Value}
    {odS anS : Option Addr} {slS : Array (Option Value)} {ocS kVS dcS pmS cdS ctS : Value}
    {odP anP : Option Addr} {slP : Array (Option Value)} {ocP kVP dcP pmP cdP ctP : Value}
    (a0 : PySem.W.nsIn K mainGlobals "is_layer" = some (some (.ref f0))) (l0 : K.lookup f0 = some ⟨oc0, od0, .func (PySem.W.fnOf "is_layer" "is_layer" (defArgs s_is_layer) (defBody s_is_layer) (defScope s_is_layer) .none kV0 dc0 pm0 an0 cd0 ct0), sl0⟩) (c0 : PySem.W.codeIn K cd0 "is_layer" = true) (k0 : PySem.W.keepIn K (.ref f0) = true)
    (a1 : PySem.W.nsIn K mainGlobals "cells_of" = some (some (.ref f1))) (l1 : K.lookup f1 = some ⟨oc1, od1, .func (PySem.W.fnOf "cells_of" "cells_of" (defArgs s_cells_of) (defBody s_cells_of) (defScope s_cells_of) .none kV1 dc1 pm1 an1 cd1 ct1), sl1⟩) (c1 : PySem.W.codeIn K cd1 "cells_of" = true) (k1 : PySem.W.keepIn K (.ref f1) = true)
    (a2 : PySem.W.nsIn K mainGlobals "agree" = some (some (.ref f2))) (l2 : K.lookup f2 = some ⟨oc2, od2, .func (PySem.W.fnOf "agree" "agree" (defArgs s_agree) (defBody s_agree) (defScope s_agree) .none kV2 dc2 pm2 an2 cd2 ct2), sl2⟩) (c2 : PySem.W.codeIn K cd2 "agree" = true) (k2 : PySem.W.keepIn K (.ref f2) = true)
    (a3 : PySem.W.nsIn K mainGlobals "peeled" = some (some (.ref f3))) (l3 : K.lookup f3 = some ⟨oc3, od3, .func (PySem.W.fnOf "peeled" "peeled" (defArgs s_peeled) (defBody s_peeled) (defScope s_peeled) .none kV3 dc3 pm3 an3 cd3 ct3), sl3⟩) (c3 : PySem.W.codeIn K cd3 "peeled" = true) (k3 : PySem.W.keepIn K (.ref f3) = true)
    (a4 : PySem.W.nsIn K mainGlobals "as_tuples" = some (some (.ref f4))) (l4 : K.lookup f4 = some ⟨oc4, od4, .func (PySem.W.fnOf "as_tuples" "as_tuples" (defArgs s_as_tuples) (defBody s_as_tuples) (defScope s_as_tuples) .none kV4 dc4 pm4 an4 cd4 ct4), sl4⟩) (c4 : PySem.W.codeIn K cd4 "as_tuples" = true) (k4 : PySem.W.keepIn K (.ref f4) = true)
    (a5 : PySem.W.nsIn K mainGlobals "is_name" = some (some (.ref f5))) (l5 : K.lookup f5 = some ⟨oc5, od5, .func (PySem.W.fnOf "is_name" "is_name" (defArgs s_is_name) (defBody s_is_name) (defScope s_is_name) .none kV5 dc5 pm5 an5 cd5 ct5), sl5⟩) (c5 : PySem.W.codeIn K cd5 "is_name" = true) (k5 : PySem.W.keepIn K (.ref f5) = true)
    (a6 : PySem.W.nsIn K mainGlobals "is_stamp" = some (some (.ref f6))) (l6 : K.lookup f6 = some ⟨oc6, od6, .func (PySem.W.fnOf "is_stamp" "is_stamp" (defArgs s_is_stamp) (defBody s_is_stamp) (defScope s_is_stamp) .none kV6 dc6 pm6 an6 cd6 ct6), sl6⟩) (c6 : PySem.W.codeIn K cd6 "is_stamp" = true) (k6 : PySem.W.keepIn K (.ref f6) = true)
    (a7 : PySem.W.nsIn K mainGlobals "check_pairs" = some (some (.ref f7))) (l7 : K.lookup f7 = some ⟨oc7, od7, .func (PySem.W.fnOf "check_pairs" "check_pairs" (defArgs s_check_pairs) (defBody s_check_pairs) (defScope s_check_pairs) .none kV7 dc7 pm7 an7 cd7 ct7), sl7⟩) (c7 : PySem.W.codeIn K cd7 "check_pairs" = true) (k7 : PySem.W.keepIn K (.ref f7) = true)
    (a8 : PySem.W.nsIn K mainGlobals "names_without" = some (some (.ref f8))) (l8 : K.lookup f8 = some ⟨oc8, od8, .func (PySem.W.fnOf "names_without" "names_without" (defArgs s_names_without) (defBody s_names_without) (defScope s_names_without) .none kV8 dc8 pm8 an8 cd8 ct8), sl8⟩) (c8 : PySem.W.codeIn K cd8 "names_without" = true) (k8 : PySem.W.keepIn K (.ref f8) = true)
    (a9 : PySem.W.nsIn K mainGlobals "left_of_all" = some (some (.ref f9))) (l9 : K.lookup f9 = some ⟨oc9, od9, .func (PySem.W.fnOf "left_of_all" "left_of_all" (defArgs s_left_of_all) (defBody s_left_of_all) (defScope s_left_of_all) .none kV9 dc9 pm9 an9 cd9 ct9), sl9⟩) (c9 : PySem.W.codeIn K cd9 "left_of_all" = true) (k9 : PySem.W.keepIn K (.ref f9) = true)
    (a10 : PySem.W.nsIn K mainGlobals "first_on_all" = some (some (.ref f10))) (l10 : K.lookup f10 = some ⟨oc10, od10, .func (PySem.W.fnOf "first_on_all" "first_on_all" (defArgs s_first_on_all) (defBody s_first_on_all) (defScope s_first_on_all) .none kV10 dc10 pm10 an10 cd10 ct10), sl10⟩) (c10 : PySem.W.codeIn K cd10 "first_on_all" = true) (k10 : PySem.W.keepIn K (.ref f10) = true)
    (a11 : PySem.W.nsIn K mainGlobals "stuck_jointly" = some (some (.ref f11))) (l11 : K.lookup f11 = some ⟨oc11, od11, .func (PySem.W.fnOf "stuck_jointly" "stuck_jointly" (defArgs s_stuck_jointly) (defBody s_stuck_jointly) (defScope s_stuck_jointly) .none kV11 dc11 pm11 an11 cd11 ct11), sl11⟩) (c11 : PySem.W.codeIn K cd11 "stuck_jointly" = true) (k11 : PySem.W.keepIn K (.ref f11) = true)
    (a12 : PySem.W.nsIn K mainGlobals "common_stuck" = some (some (.ref f12))) (l12 : K.lookup f12 = some ⟨oc12, od12, .func (PySem.W.fnOf "common_stuck" "common_stuck" (defArgs s_common_stuck) (defBody s_common_stuck) (defScope s_common_stuck) .none kV12 dc12 pm12 an12 cd12 ct12), sl12⟩) (c12 : PySem.W.codeIn K cd12 "common_stuck" = true) (k12 : PySem.W.keepIn K (.ref f12) = true)
    (a13 : PySem.W.nsIn K mainGlobals "first_to_press" = some (some (.ref f13))) (l13 : K.lookup f13 = some ⟨oc13, od13, .func (PySem.W.fnOf "first_to_press" "first_to_press" (defArgs s_first_to_press) (defBody s_first_to_press) (defScope s_first_to_press) .none kV13 dc13 pm13 an13 cd13 ct13), sl13⟩) (c13 : PySem.W.codeIn K cd13 "first_to_press" = true) (k13 : PySem.W.keepIn K (.ref f13) = true)
    (a14 : PySem.W.nsIn K mainGlobals "common_order" = some (some (.ref f14))) (l14 : K.lookup f14 = some ⟨oc14, od14, .func (PySem.W.fnOf "common_order" "common_order" (defArgs s_common_order) (defBody s_common_order) (defScope s_common_order) .none kV14 dc14 pm14 an14 cd14 ct14), sl14⟩) (c14 : PySem.W.codeIn K cd14 "common_order" = true) (k14 : PySem.W.keepIn K (.ref f14) = true)
    (a15 : PySem.W.nsIn K mainGlobals "_law_cell" = some (some (.ref f15))) (l15 : K.lookup f15 = some ⟨oc15, od15, .func (PySem.W.fnOf "_law_cell" "_law_cell" (defArgs s__law_cell) (defBody s__law_cell) (defScope s__law_cell) .none kV15 dc15 pm15 an15 cd15 ct15), sl15⟩) (c15 : PySem.W.codeIn K cd15 "_law_cell" = true) (k15 : PySem.W.keepIn K (.ref f15) = true)
    (a16 : PySem.W.nsIn K mainGlobals "_law_digits" = some (some (.ref f16))) (l16 : K.lookup f16 = some ⟨oc16, od16, .func (PySem.W.fnOf "_law_digits" "_law_digits" (defArgs s__law_digits) (defBody s__law_digits) (defScope s__law_digits) .none kV16 dc16 pm16 an16 cd16 ct16), sl16⟩) (c16 : PySem.W.codeIn K cd16 "_law_digits" = true) (k16 : PySem.W.keepIn K (.ref f16) = true)
    (a17 : PySem.W.nsIn K mainGlobals "_law_marks" = some (some (.ref f17))) (l17 : K.lookup f17 = some ⟨oc17, od17, .func (PySem.W.fnOf "_law_marks" "_law_marks" (defArgs s__law_marks) (defBody s__law_marks) (defScope s__law_marks) .none kV17 dc17 pm17 an17 cd17 ct17), sl17⟩) (c17 : PySem.W.codeIn K cd17 "_law_marks" = true) (k17 : PySem.W.keepIn K (.ref f17) = true)
    (a18 : PySem.W.nsIn K mainGlobals "_law_stamp" = some (some (.ref f18))) (l18 : K.lookup f18 = some ⟨oc18, od18, .func (PySem.W.fnOf "_law_stamp" "_law_stamp" (defArgs s__law_stamp) (defBody s__law_stamp) (defScope s__law_stamp) .none kV18 dc18 pm18 an18 cd18 ct18), sl18⟩) (c18 : PySem.W.codeIn K cd18 "_law_stamp" = true) (k18 : PySem.W.keepIn K (.ref f18) = true)
    (a19 : PySem.W.nsIn K mainGlobals "_law_words" = some (some (.ref f19))) (l19 : K.lookup f19 = some ⟨oc19, od19, .func (PySem.W.fnOf "_law_words" "_law_words" (defArgs s__law_words) (defBody s__law_words) (defScope s__law_words) .none kV19 dc19 pm19 an19 cd19 ct19), sl19⟩) (c19 : PySem.W.codeIn K cd19 "_law_words" = true) (k19 : PySem.W.keepIn K (.ref f19) = true)
    (a20 : PySem.W.nsIn K mainGlobals "_law_stock" = some (some (.ref f20))) (l20 : K.lookup f20 = some ⟨oc20, od20, .func (PySem.W.fnOf "_law_stock" "_law_stock" (defArgs s__law_stock) (defBody s__law_stock) (defScope s__law_stock) .none kV20 dc20 pm20 an20 cd20 ct20), sl20⟩) (c20 : PySem.W.codeIn K cd20 "_law_stock" = true) (k20 : PySem.W.keepIn K (.ref f20) = true)
    (a21 : PySem.W.nsIn K mainGlobals "_law_press" = some (some (.ref f21))) (l21 : K.lookup f21 = some ⟨oc21, od21, .func (PySem.W.fnOf "_law_press" "_law_press" (defArgs s__law_press) (defBody s__law_press) (defScope s__law_press) .none kV21 dc21 pm21 an21 cd21 ct21), sl21⟩) (c21 : PySem.W.codeIn K cd21 "_law_press" = true) (k21 : PySem.W.keepIn K (.ref f21) = true)
    (a22 : PySem.W.nsIn K mainGlobals "_law_agree" = some (some (.ref f22))) (l22 : K.lookup f22 = some ⟨oc22, od22, .func (PySem.W.fnOf "_law_agree" "_law_agree" (defArgs s__law_agree) (defBody s__law_agree) (defScope s__law_agree) .none kV22 dc22 pm22 an22 cd22 ct22), sl22⟩) (c22 : PySem.W.codeIn K cd22 "_law_agree" = true) (k22 : PySem.W.keepIn K (.ref f22) = true)
    (a23 : PySem.W.nsIn K mainGlobals "_law_free" = some (some (.ref f23))) (l23 : K.lookup f23 = some ⟨oc23, od23, .func (PySem.W.fnOf "_law_free" "_law_free" (defArgs s__law_free) (defBody s__law_free) (defScope s__law_free) .none kV23 dc23 pm23 an23 cd23 ct23), sl23⟩) (c23 : PySem.W.codeIn K cd23 "_law_free" = true) (k23 : PySem.W.keepIn K (.ref f23) = true)
    (a24 : PySem.W.nsIn K mainGlobals "_law_pressed" = some (some (.ref f24))) (l24 : K.lookup f24 = some ⟨oc24, od24, .func (PySem.W.fnOf "_law_pressed" "_law_pressed" (defArgs s__law_pressed) (defBody s__law_pressed) (defScope s__law_pressed) .none kV24 dc24 pm24 an24 cd24 ct24), sl24⟩) (c24 : PySem.W.codeIn K cd24 "_law_pressed" = true) (k24 : PySem.W.keepIn K (.ref f24) = true)
    (a25 : PySem.W.nsIn K mainGlobals "_law_sheet" = some (some (.ref f25))) (l25 : K.lookup f25 = some ⟨oc25, od25, .func (PySem.W.fnOf "_law_sheet" "_law_sheet" (defArgs s__law_sheet) (defBody s__law_sheet) (defScope s__law_sheet) .none kV25 dc25 pm25 an25 cd25 ct25), sl25⟩) (c25 : PySem.W.codeIn K cd25 "_law_sheet" = true) (k25 : PySem.W.keepIn K (.ref f25) = true)
    (a26 : PySem.W.nsIn K mainGlobals "_law_dashed" = some (some (.ref f26))) (l26 : K.lookup f26 = some ⟨oc26, od26, .func (PySem.W.fnOf "_law_dashed" "_law_dashed" (defArgs s__law_dashed) (defBody s__law_dashed) (defScope s__law_dashed) .none kV26 dc26 pm26 an26 cd26 ct26), sl26⟩) (c26 : PySem.W.codeIn K cd26 "_law_dashed" = true) (k26 : PySem.W.keepIn K (.ref f26) = true)
    (a27 : PySem.W.nsIn K mainGlobals "_law_turned" = some (some (.ref f27))) (l27 : K.lookup f27 = some ⟨oc27, od27, .func (PySem.W.fnOf "_law_turned" "_law_turned" (defArgs s__law_turned) (defBody s__law_turned) (defScope s__law_turned) .none kV27 dc27 pm27 an27 cd27 ct27), sl27⟩) (c27 : PySem.W.codeIn K cd27 "_law_turned" = true) (k27 : PySem.W.keepIn K (.ref f27) = true)
    (a28 : PySem.W.nsIn K mainGlobals "_law_spoilt" = some (some (.ref f28))) (l28 : K.lookup f28 = some ⟨oc28, od28, .func (PySem.W.fnOf "_law_spoilt" "_law_spoilt" (defArgs s__law_spoilt) (defBody s__law_spoilt) (defScope s__law_spoilt) .none kV28 dc28 pm28 an28 cd28 ct28), sl28⟩) (c28 : PySem.W.codeIn K cd28 "_law_spoilt" = true) (k28 : PySem.W.keepIn K (.ref f28) = true)
    (a29 : PySem.W.nsIn K mainGlobals "_law_store" = some (some (.ref f29))) (l29 : K.lookup f29 = some ⟨oc29, od29, .func (PySem.W.fnOf "_law_store" "_law_store" (defArgs s__law_store) (defBody s__law_store) (defScope s__law_store) .none kV29 dc29 pm29 an29 cd29 ct29), sl29⟩) (c29 : PySem.W.codeIn K cd29 "_law_store" = true) (k29 : PySem.W.keepIn K (.ref f29) = true)
    (a30 : PySem.W.nsIn K mainGlobals "_law_texts" = some (some (.ref f30))) (l30 : K.lookup f30 = some ⟨oc30, od30, .func (PySem.W.fnOf "_law_texts" "_law_texts" (defArgs s__law_texts) (defBody s__law_texts) (defScope s__law_texts) .none kV30 dc30 pm30 an30 cd30 ct30), sl30⟩) (c30 : PySem.W.codeIn K cd30 "_law_texts" = true) (k30 : PySem.W.keepIn K (.ref f30) = true)
    (a31 : PySem.W.nsIn K mainGlobals "_law_nets" = some (some (.ref f31))) (l31 : K.lookup f31 = some ⟨oc31, od31, .func (PySem.W.fnOf "_law_nets" "_law_nets" (defArgs s__law_nets) (defBody s__law_nets) (defScope s__law_nets) .none kV31 dc31 pm31 an31 cd31 ct31), sl31⟩) (c31 : PySem.W.codeIn K cd31 "_law_nets" = true) (k31 : PySem.W.keepIn K (.ref f31) = true)
    (a32 : PySem.W.nsIn K mainGlobals "_law_drawn_sheet" = some (some (.ref f32))) (l32 : K.lookup f32 = some ⟨oc32, od32, .func (PySem.W.fnOf "_law_drawn_sheet" "_law_drawn_sheet" (defArgs s__law_drawn_sheet) (defBody s__law_drawn_sheet) (defScope s__law_drawn_sheet) .none kV32 dc32 pm32 an32 cd32 ct32), sl32⟩) (c32 : PySem.W.codeIn K cd32 "_law_drawn_sheet" = true) (k32 : PySem.W.keepIn K (.ref f32) = true)
    (a33 : PySem.W.nsIn K mainGlobals "_law_common_stuck" = some (some (.ref f33))) (l33 : K.lookup f33 = some ⟨oc33, od33, .func (PySem.W.fnOf "_law_common_stuck" "_law_common_stuck" (defArgs s__law_common_stuck) (defBody s__law_common_stuck) (defScope s__law_common_stuck) .none kV33 dc33 pm33 an33 cd33 ct33), sl33⟩) (c33 : PySem.W.codeIn K cd33 "_law_common_stuck" = true) (k33 : PySem.W.keepIn K (.ref f33) = true)
    (a34 : PySem.W.nsIn K mainGlobals "_law_starts_agree" = some (some (.ref f34))) (l34 : K.lookup f34 = some ⟨oc34, od34, .func (PySem.W.fnOf "_law_starts_agree" "_law_starts_agree" (defArgs s__law_starts_agree) (defBody s__law_starts_agree) (defScope s__law_starts_agree) .none kV34 dc34 pm34 an34 cd34 ct34), sl34⟩) (c34 : PySem.W.codeIn K cd34 "_law_starts_agree" = true) (k34 : PySem.W.keepIn K (.ref f34) = true)
    (a35 : PySem.W.nsIn K mainGlobals "_law_flags" = some (some (.ref f35))) (l35 : K.lookup f35 = some ⟨oc35, od35, .func (PySem.W.fnOf "_law_flags" "_law_flags" (defArgs s__law_flags) (defBody s__law_flags) (defScope s__law_flags) .none kV35 dc35 pm35 an35 cd35 ct35), sl35⟩) (c35 : PySem.W.codeIn K cd35 "_law_flags" = true) (k35 : PySem.W.keepIn K (.ref f35) = true)
    (a36 : PySem.W.nsIn K mainGlobals "_law_common" = some (some (.ref f36))) (l36 : K.lookup f36 = some ⟨oc36, od36, .func (PySem.W.fnOf "_law_common" "_law_common" (defArgs s__law_common) (defBody s__law_common) (defScope s__law_common) .none kV36 dc36 pm36 an36 cd36 ct36), sl36⟩) (c36 : PySem.W.codeIn K cd36 "_law_common" = true) (k36 : PySem.W.keepIn K (.ref f36) = true)
    (a37 : PySem.W.nsIn K mainGlobals "_law_given" = some (some (.ref f37))) (l37 : K.lookup f37 = some ⟨oc37, od37, .func (PySem.W.fnOf "_law_given" "_law_given" (defArgs s__law_given) (defBody s__law_given) (defScope s__law_given) .none kV37 dc37 pm37 an37 cd37 ct37), sl37⟩) (c37 : PySem.W.codeIn K cd37 "_law_given" = true) (k37 : PySem.W.keepIn K (.ref f37) = true)
    (a38 : PySem.W.nsIn K mainGlobals "_law_asked_once" = some (some (.ref f38))) (l38 : K.lookup f38 = some ⟨oc38, od38, .func (PySem.W.fnOf "_law_asked_once" "_law_asked_once" (defArgs s__law_asked_once) (defBody s__law_asked_once) (defScope s__law_asked_once) .none kV38 dc38 pm38 an38 cd38 ct38), sl38⟩) (c38 : PySem.W.codeIn K cd38 "_law_asked_once" = true) (k38 : PySem.W.keepIn K (.ref f38) = true)
    (a39 : PySem.W.nsIn K mainGlobals "law" = some (some (.ref f39))) (l39 : K.lookup f39 = some ⟨oc39, od39, .func (PySem.W.fnOf "law" "law" (defArgs s_law) (defBody s_law) (defScope s_law) .none kV39 dc39 pm39 an39 cd39 ct39), sl39⟩) (c39 : PySem.W.codeIn K cd39 "law" = true) (k39 : PySem.W.keepIn K (.ref f39) = true)
    (aI : PySem.W.findIn K (.ref C) "__init__" = some (some (.ref fI))) (iI : PySem.W.isFn K (.ref fI) = true) (lI : K.lookup fI = some ⟨ocI, odI, .func (PySem.W.fnOf "__init__" "Stock.__init__" (defArgs s_Stock___init__) (defBody s_Stock___init__) (defScope s_Stock___init__) .none kVI dcI pmI anI cdI ctI), slI⟩) (cI : PySem.W.codeIn K cdI "Stock.__init__" = true) (kI : PySem.W.keepIn K (.ref fI) = true)
    (aJ : PySem.W.findIn K (.ref C) "__iter__" = some (some (.ref fi))) (iJ : PySem.W.isFn K (.ref fi) = true) (lJ : K.lookup fi = some ⟨ocJ, odJ, .func (PySem.W.fnOf "__iter__" "Stock.__iter__" (defArgs s_Stock___iter__) (defBody s_Stock___iter__) (defScope s_Stock___iter__) .none kVJ dcJ pmJ anJ cdJ ctJ), slJ⟩) (cJ : PySem.W.codeIn K cdJ "Stock.__iter__" = true) (kJ : PySem.W.keepIn K (.ref fi) = true)
    (aN : PySem.W.findIn K (.ref C) "__contains__" = some (some (.ref fC))) (iN : PySem.W.isFn K (.ref fC) = true) (lN : K.lookup fC = some ⟨ocN, odN, .func (PySem.W.fnOf "__contains__" "Stock.__contains__" (defArgs s_Stock___contains__) (defBody s_Stock___contains__) (defScope s_Stock___contains__) .none kVN dcN pmN anN cdN ctN), slN⟩) (cN : PySem.W.codeIn K cdN "Stock.__contains__" = true) (kN : PySem.W.keepIn K (.ref fC) = true)
    (aS : PySem.W.findIn K (.ref C) "stamp" = some (some (.ref fS))) (iS : PySem.W.isFn K (.ref fS) = true) (lS : K.lookup fS = some ⟨ocS, odS, .func (PySem.W.fnOf "stamp" "Stock.stamp" (defArgs s_Stock_stamp) (defBody s_Stock_stamp) (defScope s_Stock_stamp) .none kVS dcS pmS anS cdS ctS), slS⟩) (cS : PySem.W.codeIn K cdS "Stock.stamp" = true) (kS : PySem.W.keepIn K (.ref fS) = true)
    {pP : Addr} {r0P : List Value} (aP : PySem.W.findIn K (.ref C) "names" = some (some (.ref pP))) (gP : PySem.W.specialIn K (.ref pP) "__get__" = some (some (.builtin "property.__get__"))) (tP : PySem.W.takesIn K (.ref pP) = some true) (iP : PySem.W.recIn K pP "property" = some (.ref fP :: r0P)) (lP : K.lookup fP = some ⟨ocP, odP, .func (PySem.W.fnOf "names" "Stock.names" (defArgs s_Stock_names) (defBody s_Stock_names) (defScope s_Stock_names) .none kVP dcP pmP anP cdP ctP), slP⟩) (cP : PySem.W.codeIn K cdP "Stock.names" = true) (kP : PySem.W.keepIn K (.ref fP) = true)
    (aCC : PySem.W.nsIn K mainGlobals "Stock" = some (some (.ref C))) (pgC : PySem.W.plainGet K C Str.empty = true) (hdC : PySem.W.hasDictIn K C = true) (poC : PySem.W.plainOver K C = true) (saC : PySem.W.findIn K (.ref C) "__setattr__" = some (some (.builtin "object.__setattr__"))) (mkC : PySem.W.makesIn K C = true) (kcC : PySem.W.keepIn K (.ref C) = true) (nCsize : PySem.W.findIn K (.ref C) "size" = some none) (nCstamps : PySem.W.findIn K (.ref C) "stamps" = some none) (nCstamp_of : PySem.W.findIn K (.ref C) "_stamp_of" = some none)
    (gD : PySem.W.nsIn K mainGlobals "DASH" = some (some (.str xD tD))) (gL : PySem.W.nsIn K mainGlobals "LETTERS" = some (some (.str xL tL))) (gM : PySem.W.nsIn K mainGlobals "MARKS" = some (some (.str xM tM))) (gG : PySem.W.nsIn K mainGlobals "DIGITS" = some (some (.str xG tG))) (gN : PySem.W.nsIn K mainGlobals "LONGEST" = some (some (.int 30 nL))) (gO : PySem.W.nsIn K mainGlobals "LONGEST_NAME" = some (some (.int 8 nN))) (eD : xD = S [45]) (eL : xL = S letters) (eM : xM = S alls) (eG : xG = S digits)
    (z_len : PySem.W.nsIn K mainGlobals "len" = some none)
    (z_int : PySem.W.nsIn K mainGlobals "int" = some none)
    (z_bool : PySem.W.nsIn K mainGlobals "bool" = some none)
    (z_str : PySem.W.nsIn K mainGlobals "str" = some none)
    (z_tuple : PySem.W.nsIn K mainGlobals "tuple" = some none)
    (z_list : PySem.W.nsIn K mainGlobals "list" = some none)
    (z_zip : PySem.W.nsIn K mainGlobals "zip" = some none)
    (z_enumerate : PySem.W.nsIn K mainGlobals "enumerate" = some none)
    (z_range : PySem.W.nsIn K mainGlobals "range" = some none)
    (z_max : PySem.W.nsIn K mainGlobals "max" = some none)
    (z_min : PySem.W.nsIn K mainGlobals "min" = some none)
    (z_sum : PySem.W.nsIn K mainGlobals "sum" = some none)
    (z_all : PySem.W.nsIn K mainGlobals "all" = some none)
    (z_any : PySem.W.nsIn K mainGlobals "any" = some none)
    (z_isinstance : PySem.W.nsIn K mainGlobals "isinstance" = some none)
    (z_iter : PySem.W.nsIn K mainGlobals "iter" = some none)
    : ∃ fd : FuncData, (∀ (s : Shared) (v : Value), BindsTo s fd ⟨[v], []⟩ [("script", v)]) ∧ ∀ base : Heap, K.In base → base.Ns mainGlobals mg → FnOk l.prog w K mg base CX0 8 fa fd ["script"] (spLaw K) := by
  have e := hfa.symm.trans (PySem.W.mg_of X G a39)
  cases e
  subst eD
  subst eL
  subst eM
  subst eG
  have T : Txt K mg := ⟨⟨_, PySem.W.mg_of X G gD⟩, ⟨_, PySem.W.mg_of X G gL⟩, ⟨_, PySem.W.mg_of X G gM⟩, ⟨_, PySem.W.mg_of X G gN⟩, ⟨_, PySem.W.mg_of X G gG⟩, ⟨_, PySem.W.mg_of X G gO⟩, PySem.W.mg_none_of X G z_len, PySem.W.mg_none_of X G z_int, PySem.W.mg_none_of X G z_bool, PySem.W.mg_none_of X G z_str, PySem.W.mg_none_of X G z_tuple, PySem.W.mg_none_of X G z_list, PySem.W.mg_none_of X G z_zip, PySem.W.mg_none_of X G z_enumerate, PySem.W.mg_none_of X G z_range, PySem.W.mg_none_of X G z_max, PySem.W.mg_none_of X G z_min, PySem.W.mg_none_of X G z_sum, PySem.W.mg_none_of X G z_all, PySem.W.mg_none_of X G z_any, PySem.W.mg_none_of X G z_isinstance, PySem.W.mg_none_of X G z_iter⟩
  have TS : StTxt K mg C := ⟨⟨pgC, hdC, poC, saC⟩, nCsize, nCstamps, nCstamp_of, PySem.W.mg_of X G aCC⟩
  have F := fun_mk (st := s_law) l39 c39 k39
  have FI := fun_mk (st := s_Stock___init__) lI cI kI
  have bI := FI.binds (ps := ["self", "size", "stamps"]) fun _ _ _ _ _ _ us hl => match us, hl with | [_, _, _], _ => rfl
  have FJ := fun_mk (st := s_Stock___iter__) lJ cJ kJ
  have bJ := FJ.binds (ps := ["self"]) fun _ _ _ _ _ _ us hl => match us, hl with | [_], _ => rfl
  have FN := fun_mk (st := s_Stock___contains__) lN cN kN
  have bN := FN.binds (ps := ["self", "name"]) fun _ _ _ _ _ _ us hl => match us, hl with | [_, _], _ => rfl
  have FS := fun_mk (st := s_Stock_stamp) lS cS kS
  have bS := FS.binds (ps := ["self", "name"]) fun _ _ _ _ _ _ us hl => match us, hl with | [_, _], _ => rfl
  have FP := fun_mk (st := s_Stock_names) lP cP kP
  have bP := FP.binds (ps := ["self"]) fun _ _ _ _ _ _ us hl => match us, hl with | [_], _ => rfl
  exact ⟨_, fun s v => .of_eq rfl, fun base _ _ => fn_all T TS F FI bI ⟨mkC, aI, iI, kcC⟩ (iter_okStock T TS FJ aJ iJ bJ) FN bN aN iN FS bS ⟨aS, iS, kS⟩ FP bP ⟨aP, gP, tP, ⟨_, iP⟩⟩ (at_is_layer X G a0 l0 c0 k0) (at_cells_of X G a1 l1 c1 k1) (at_agree X G a2 l2 c2 k2) (at_peeled X G a3 l3 c3 k3) (at_as_tuples X G a4 l4 c4 k4) (at_is_name X G a5 l5 c5 k5) (at_is_stamp X G a6 l6 c6 k6) (at_check_pairs X G a7 l7 c7 k7) (at_names_without X G a8 l8 c8 k8) (at_left_of_all X G a9 l9 c9 k9) (at_first_on_all X G a10 l10 c10 k10) (at_stuck_jointly X G a11 l11 c11 k11) (at_common_stuck X G a12 l12 c12 k12) (at_first_to_press X G a13 l13 c13 k13) (at_common_order X G a14 l14 c14 k14) (at__law_cell X G a15 l15 c15 k15) (at__law_digits X G a16 l16 c16 k16) (at__law_marks X G a17 l17 c17 k17) (at__law_stamp X G a18 l18 c18 k18) (at__law_words X G a19 l19 c19 k19) (at__law_stock X G a20 l20 c20 k20) (at__law_press X G a21 l21 c21 k21) (at__law_agree X G a22 l22 c22 k22) (at__law_free X G a23 l23 c23 k23) (at__law_pressed X G a24 l24 c24 k24) (at__law_sheet X G a25 l25 c25 k25) (at__law_dashed X G a26 l26 c26 k26) (at__law_turned X G a27 l27 c27 k27) (at__law_spoilt X G a28 l28 c28 k28) (at__law_store X G a29 l29 c29 k29) (at__law_texts X G a30 l30 c30 k30) (at__law_nets X G a31 l31 c31 k31) (at__law_drawn_sheet X G a32 l32 c32 k32) (at__law_common_stuck X G a33 l33 c33 k33) (at__law_starts_agree X G a34 l34 c34 k34) (at__law_flags X G a35 l35 c35 k35) (at__law_common X G a36 l36 c36 k36) (at__law_given X G a37 l37 c37 k37) (at__law_asked_once X G a38 l38 c38 k38)⟩
end Mi
open PySem PySem.W PyProof.Rows
set_option maxHeartbeats 0 in
theorem PySem.Challenge.cw_stampsheets_k35_common_order_whole_holds : PySem.Challenge.rw_stampsheets_k35_common_order_whole.Holds := by
  w_on; o_law; k_head; (case hw => w_witness2)
  k_fill
  refine L2.walk_of (l := PySem.Challenge.rw_stampsheets_k35_common_order_whole) (n := 63) (k := 8) (x := "script") (CX := fun _ => L2.CX0) (sp := fun w => Mi.spLaw _) rfl (by decide) rfl ⟨rfl, by decide, by decide⟩ (fun w h Y => PySem.W.kIn_of Y) ?F (fun _ _ a ns hl _ hS => ⟨ns, hl, .cons ⟨a, rfl, hS⟩ .nil, fun v H2 _ hv => hv⟩) (fun _ _ _ _ _ h => h)
  case F =>
    intro w mg fa h KX G hmg
    refine' Mi.all_mk KX G hmg ?a0 ?l0 ?c0 ?k0 ?a1 ?l1 ?c1 ?k1 ?a2 ?l2 ?c2 ?k2 ?a3 ?l3 ?c3 ?k3 ?a4 ?l4 ?c4 ?k4 ?a5 ?l5 ?c5 ?k5 ?a6 ?l6 ?c6 ?k6 ?a7 ?l7 ?c7 ?k7 ?a8 ?l8 ?c8 ?k8 ?a9 ?l9 ?c9 ?k9 ?a10 ?l10 ?c10 ?k10 ?a11 ?l11 ?c11 ?k11 ?a12 ?l12 ?c12 ?k12 ?a13 ?l13 ?c13 ?k13 ?a14 ?l14 ?c14 ?k14 ?a15 ?l15 ?c15 ?k15 ?a16 ?l16 ?c16 ?k16 ?a17 ?l17 ?c17 ?k17 ?a18 ?l18 ?c18 ?k18 ?a19 ?l19 ?c19 ?k19 ?a20 ?l20 ?c20 ?k20 ?a21 ?l21 ?c21 ?k21 ?a22 ?l22 ?c22 ?k22 ?a23 ?l23 ?c23 ?k23 ?a24 ?l24 ?c24 ?k24 ?a25 ?l25 ?c25 ?k25 ?a26 ?l26 ?c26 ?k26 ?a27 ?l27 ?c27 ?k27 ?a28 ?l28 ?c28 ?k28 ?a29 ?l29 ?c29 ?k29 ?a30 ?l30 ?c30 ?k30 ?a31 ?l31 ?c31 ?k31 ?a32 ?l32 ?c32 ?k32 ?a33 ?l33 ?c33 ?k33 ?a34 ?l34 ?c34 ?k34 ?a35 ?l35 ?c35 ?k35 ?a36 ?l36 ?c36 ?k36 ?a37 ?l37 ?c37 ?k37 ?a38 ?l38 ?c38 ?k38 ?a39 ?l39 ?c39 ?k39 ?aI ?iI ?lI ?cI ?kI ?aJ ?iJ ?lJ ?cJ ?kJ ?aN ?iN ?lN ?cN ?kN ?aS ?iS ?lS ?cS ?kS ?aP ?gP ?tP ?iP ?lP ?cP ?kP ?aCC ?pgC ?hdC ?poC ?saC ?mkC ?kcC ?nCsize ?nCstamps ?nCstamp_of ?gD ?gL ?gM ?gG ?gN ?gO ?eD ?eL ?eM ?eG ?z_len ?z_int ?z_bool ?z_str ?z_tuple ?z_list ?z_zip ?z_enumerate ?z_range ?z_max ?z_min ?z_sum ?z_all ?z_any ?z_isinstance ?z_iter
    case aCC => k_is
    case a0 => k_is
    case l0 => k_is
    case c0 => k_is
    case k0 => k_is
    case a1 => k_is
    case l1 => k_is
    case c1 => k_is
    case k1 => k_is
    case a2 => k_is
    case l2 => k_is
    case c2 => k_is
    case k2 => k_is
    case a3 => k_is
    case l3 => k_is
    case c3 => k_is
    case k3 => k_is
    case a4 => k_is
    case l4 => k_is
    case c4 => k_is
    case k4 => k_is
    case a5 => k_is
    case l5 => k_is
    case c5 => k_is
    case k5 => k_is
    case a6 => k_is
    case l6 => k_is
    case c6 => k_is
    case k6 => k_is
    case a7 => k_is
    case l7 => k_is
    case c7 => k_is
    case k7 => k_is
    case a8 => k_is
    case l8 => k_is
    case c8 => k_is
    case k8 => k_is
    case a9 => k_is
    case l9 => k_is
    case c9 => k_is
    case k9 => k_is
    case a10 => k_is
    case l10 => k_is
    case c10 => k_is
    case k10 => k_is
    case a11 => k_is
    case l11 => k_is
    case c11 => k_is
    case k11 => k_is
    case a12 => k_is
    case l12 => k_is
    case c12 => k_is
    case k12 => k_is
    case a13 => k_is
    case l13 => k_is
    case c13 => k_is
    case k13 => k_is
    case a14 => k_is
    case l14 => k_is
    case c14 => k_is
    case k14 => k_is
    case a15 => k_is
    case l15 => k_is
    case c15 => k_is
    case k15 => k_is
    case a16 => k_is
    case l16 => k_is
    case c16 => k_is
    case k16 => k_is
    case a17 => k_is
    case l17 => k_is
    case c17 => k_is
    case k17 => k_is
    case a18 => k_is
    case l18 => k_is
    case c18 => k_is
    case k18 => k_is
    case a19 => k_is
    case l19 => k_is
    case c19 => k_is
    case k19 => k_is
    case a20 => k_is
    case l20 => k_is
    case c20 => k_is
    case k20 => k_is
    case a21 => k_is
    case l21 => k_is
    case c21 => k_is
    case k21 => k_is
    case a22 => k_is
    case l22 => k_is
    case c22 => k_is
    case k22 => k_is
    case a23 => k_is
    case l23 => k_is
    case c23 => k_is
    case k23 => k_is
    case a24 => k_is
    case l24 => k_is
    case c24 => k_is
    case k24 => k_is
    case a25 => k_is
    case l25 => k_is
    case c25 => k_is
    case k25 => k_is
    case a26 => k_is
    case l26 => k_is
    case c26 => k_is
    case k26 => k_is
    case a27 => k_is
    case l27 => k_is
    case c27 => k_is
    case k27 => k_is
    case a28 => k_is
    case l28 => k_is
    case c28 => k_is
    case k28 => k_is
    case a29 => k_is
    case l29 => k_is
    case c29 => k_is
    case k29 => k_is
    case a30 => k_is
    case l30 => k_is
    case c30 => k_is
    case k30 => k_is
    case a31 => k_is
    case l31 => k_is
    case c31 => k_is
    case k31 => k_is
    case a32 => k_is
    case l32 => k_is
    case c32 => k_is
    case k32 => k_is
    case a33 => k_is
    case l33 => k_is
    case c33 => k_is
    case k33 => k_is
    case a34 => k_is
    case l34 => k_is
    case c34 => k_is
    case k34 => k_is
    case a35 => k_is
    case l35 => k_is
    case c35 => k_is
    case k35 => k_is
    case a36 => k_is
    case l36 => k_is
    case c36 => k_is
    case k36 => k_is
    case a37 => k_is
    case l37 => k_is
    case c37 => k_is
    case k37 => k_is
    case a38 => k_is
    case l38 => k_is
    case c38 => k_is
    case k38 => k_is
    case a39 => k_is
    case l39 => k_is
    case c39 => k_is
    case k39 => k_is
    case aI => k_is
    case iI => k_is
    case lI => k_is
    case cI => k_is
    case kI => k_is
    case aJ => k_is
    case iJ => k_is
    case lJ => k_is
    case cJ => k_is
    case kJ => k_is
    case aN => k_is
    case iN => k_is
    case lN => k_is
    case cN => k_is
    case kN => k_is
    case aS => k_is
    case iS => k_is
    case lS => k_is
    case cS => k_is
    case kS => k_is
    case aP => k_is
    case gP => k_is
    case tP => k_is
    case iP => k_is
    case lP => k_is
    case cP => k_is
    case kP => k_is
    case pgC => k_is
    case hdC => k_is
    case poC => k_is
    case saC => k_is
    case mkC => k_is
    case kcC => k_is
    case nCsize => k_is
    case nCstamps => k_is
    case nCstamp_of => k_is
    case gD => k_is
    case gL => k_is
    case gM => k_is
    case gG => k_is
    case gN => k_is
    case gO => k_is
    case z_len => k_is
    case z_int => k_is
    case z_bool => k_is
    case z_str => k_is
    case z_tuple => k_is
    case z_list => k_is
    case z_zip => k_is
    case z_enumerate => k_is
    case z_range => k_is
    case z_max => k_is
    case z_min => k_is
    case z_sum => k_is
    case z_all => k_is
    case z_any => k_is
    case z_isinstance => k_is
    case z_iter => k_is
    case eD => rfl
    case eL => rfl
    case eM => rfl
    case eG => rfl

