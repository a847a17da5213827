import PyProof.Rows.All
import Wide.All
import OpenK.AllK
import Wide.FinOn
import PySem.Challenge.RW_stampsheets_k10_making_whole
import HandS.Base
import HandS.Call
import HandS.List
import HandS.Comp
import HandS.Ends
import HandS.Dict
import HandS.Iter
import HandS.Text
import HandS.Words
import HandS.Evl
import KE.GoesNew
import PyProof.EnumMake
import HandS.ForMost
import HandS.IsInst
import HandS.Replace
import HandS.SetFor
import HandS.ReplaceList
import PyProof.StrReplace2
import HandS.Steps
import KE.KEqSeq
import KE.SortKeyHeap
import KE.KSortKey
import HandS.SortKw
import HandS.Style
import HandS.TryOnly
import HandS.Gcd
import HandS.Wide
import HandS.IterVal
import HandS.DictComp
import KE.KOwnIter
import KE.GoesMore
import HandS.DeepEq
import KE.KOwnIn
import KE.KRevSl
import PyProof.SliceStr2
set_option Elab.async false
set_option linter.all false
set_option maxRecDepth 100000
set_option maxHeartbeats 2000000
namespace Mi
open PySem PySem.Spec PyProof.Rows L2

/-! ### pairs that are known ahead, each in a new tuple -/
def ItP (ps : List (V × V)) : It :=
  ⟨fun i _ => i < ps.length, fun i H v H' => ∃ T x y, v = .ref T ∧ H T = none ∧ H' = upd H T (.tup [x, y]) ∧ ps[i]? = some (x, y), fun i _ => i = ps.length⟩
def YP (ps : List (V × V)) (i : Nat) (h0 : Heap) (v : Value) (h : Heap) : Prop :=
  ∃ T a b, v = .ref T ∧ h0.objs.size ≤ T ∧ (∃ x y, ps[i]? = some (x, y) ∧ RelV x a ∧ RelV y b) ∧ h.IsTuple T #[a, b]
theorem turn_pairs {P : Program} {w : World} {K : PySem.W.Frag} {tg : Expr} {I : Addr} {fp wr : List Addr} {n : Nat} {St : Nat → Heap → Prop} (ps : List (V × V)) (hn : ps.length = n)
    (mem : I ∈ fp) (obj : ∀ i h, St i h → ∀ b ∈ fp, ∃ o, h.get? b = some o ∧ ∀ v, o.data ≠ .cell v)
    (W : ∀ A : Around, A.handled = none → GoesN P w A tg I fp wr n (YP ps) St) (A0 : Around) (hA0 : A0.handled = none)
    (self : ∀ (A : Around) (i : Nat) (s : Shared) (Q : Value → Shared → Prop) (E : Value → Shared → Prop), St i s.heap → Q (.ref I) s → wpAny (model P w) A (pyIter (.ref I)) Q E s) : Turn P w K tg (ItP ps) fp I St where
  mem := mem
  obj := obj
  keep := (W A0 hA0).frame
  item := by
    intro X hP hw hK hc i pins s σ H E I hf st hg
    subst hP hw hK
    have W1 := W X.A (I.ok.hd hc)
    refine W1.goes i s _ E (by rw [← hn]; exact hg) st fun v h' tk hY st' hk htk => ?_
    obtain ⟨T, a, b, rfl, hT, ⟨x, y, hxy, ra, rb⟩, ht⟩ := hY
    have new : ObjOk X.prog X.w (upd H T (.tup [x, y])) h' T (.tup [x, y]) := ⟨by show 2 ≤ sizeLine; decide, [a, b], .cons ra (.cons rb .nil), ht⟩
    have I1 := I.turnedNew (t' := tk) (ch := fp) (fun c o hb q => hk c o (fun z => hb (W1.sub c z)) q) hf hT new
    refine ⟨.ref T, _, I1, rfl, ⟨T, x, y, rfl, I.hok.fresh hT, rfl, hxy⟩, st', fun c hcm => ?_⟩
    obtain ⟨o, ho, _⟩ := obj i _ st c hcm
    rw [upd_ne (Nat.ne_of_lt (Nat.lt_of_lt_of_le (Heap.lt_size ho) hT))]
    exact (hf c hcm).1
  done := by
    intro X hP hw hK hc i pins s σ H E I hf st hg
    subst hP hw hK
    have W1 := W X.A (I.ok.hd hc)
    have e : i = n := by rw [← hn]; exact hg
    subst e
    refine W1.stops s _ E st fun h' tk hk htk => ?_
    exact I.turnedL (t' := tk) (ch := fp) (fun c o hb q => hk c o (fun z => hb (W1.sub c z)) q) hf
  self := self

/-! ### texts, sign by sign -/
def sgn (c : Nat) : V := .str ⟨#[c]⟩
theorem text_obj {h : Heap} {a : Addr} {ty : String} {x : Str} {t : Tok} {i : Nat} (st : h.IsStrIter a ty x t i) : ∃ o, h.get? a = some o ∧ ∀ v, o.data ≠ .cell v := by
  obtain ⟨o, e, c, d⟩ := st
  exact ⟨o, e, fun v z => by rw [d] at z; cases z⟩

def zipS (x y : Str) : List (V × V) := (x.cps.toList.zip y.cps.toList).map fun p => (sgn p.1, sgn p.2)
theorem zipS_len (x y : Str) : (zipS x y).length = min x.cps.size y.cps.size := by simp [zipS]
theorem zipS_get {x y : Str} {i c d : Nat} (h1 : x.cps[i]? = some c) (h2 : y.cps[i]? = some d) : (zipS x y)[i]? = some (sgn c, sgn d) := by
  have e1 : x.cps.toList[i]? = some c := by simpa using h1
  have e2 : y.cps.toList[i]? = some d := by simpa using h2
  unfold zipS
  rw [List.getElem?_map, List.getElem?_zip_eq_some (z := (c, d)) |>.mpr ⟨e1, e2⟩]
  rfl
def iZipS (ta : TA) : TI := fun σ H R => ta σ H fun vs H1 => ∃ x y, vs = [.str x, .str y] ∧ R (ItP (zipS x y)) H1
theorem pi_zipS {X : Cx} {e e2 : Expr} {ta : TA} {p pos tpos : Pos} {elts : List Expr} {kk : Nat} (hg : Gl X "zip") (hm : X.mg "zip" = none) (ha : PA X [e, e2] ta)
    (hs : starEach [e, e2] X.env = (false, eval e X.env) :: starEach [e2] X.env := by rfl) (hpl : (backTo pos (starEach [e2] X.env)).any (·.1) = false := by rfl) (hc : X.calm = true := by rfl) :
    PI X (.Tuple elts kk tpos) (.Call (.Name "zip" p) [e, e2] [] pos) (iZipS ta) := by
  refine ⟨fun pins s σ H R I h => ?_⟩
  refine Call_ (ld_blt I hg hm PyProof.Rows.boot_zip (PyProof.Rows.callWith_type1 (thn (ha.run pos pins s σ H _ I h) fun us s1 ⟨vs, H1, I1, r1, q1⟩ => ?_) hs hpl))
  obtain ⟨x, y, ex, q⟩ := q1
  subst ex
  cases r1 with
  | cons r rr =>
    cases rr with
    | cons r' rr =>
      cases rr
      obtain ⟨t, rfl⟩ := r
      obtain ⟨u, rfl⟩ := r'
      refine zip_begins2 (begins_text x t) (begins_text y u) trivial trivial fun h' hz hTI hTO h1 h2 hsz hk => wpAny_pyIter_zip hz ?_
      have I2 : Inv X pins σ H1 { s1 with heap := h' } := I1.kept (t' := s1.toks) hk
      have i1 : h'.IsStrIter s1.heap.objs.size (strIterType x) x t 0 := ⟨_, h1, rfl, rfl⟩
      have i2 : h'.IsStrIter (s1.heap.objs.size + 1) (strIterType y) y u 0 := ⟨_, h2, rfl, rfl⟩
      refine ⟨s1.heap.objs.size + 4, [s1.heap.objs.size + 4, s1.heap.objs.size + 2, s1.heap.objs.size + 3, s1.heap.objs.size, s1.heap.objs.size + 1], _, ItP (zipS x y), H1, rfl, I2,
        turn_pairs (wr := [s1.heap.objs.size + 4, s1.heap.objs.size + 3, s1.heap.objs.size, s1.heap.objs.size + 1]) (zipS x y) (zipS_len x y) (by simp) (St := fun i h => IsZip h (s1.heap.objs.size + 4) (s1.heap.objs.size + 2) (s1.heap.objs.size + 3) .none ∧ IsTupOf2 h (s1.heap.objs.size + 2) (.ref s1.heap.objs.size) (.ref (s1.heap.objs.size + 1)) ∧ (∃ a1 a2, IsTupOf2 h (s1.heap.objs.size + 3) a1 a2) ∧ h.IsStrIter s1.heap.objs.size (strIterType x) x t i ∧ h.IsStrIter (s1.heap.objs.size + 1) (strIterType y) y u i) ?_ (fun A hA => ?_) X.A (I1.ok.hd hc) (fun A i s Q E st h => wpAny_pyIter_zip st.1 h),
        ⟨hz, hTI, ⟨_, _, hTO⟩, i1, i2⟩, fun c hcm => ?_, q⟩
      · rintro i h ⟨z1, z2, ⟨_, _, z3⟩, z4, z5⟩ b hb
        have e' : b = s1.heap.objs.size + 4 ∨ b = s1.heap.objs.size + 2 ∨ b = s1.heap.objs.size + 3 ∨ b = s1.heap.objs.size ∨ b = s1.heap.objs.size + 1 := by simpa using hb
        rcases e' with q | q | q | q | q
        · rw [q]; exact ⟨_, z1, fun v q => nomatch q⟩
        · rw [q]; exact ⟨_, z2, fun v q => nomatch q⟩
        · rw [q]; exact ⟨_, z3, fun v q => nomatch q⟩
        · rw [q]; exact text_obj z4
        · rw [q]; exact text_obj z5
      · have D1 := Draws.text (prog := X.prog) (w := X.w) (A := A.in1) hA s1.heap.objs.size x t
        have D2 := Draws.text (prog := X.prog) (w := X.w) (A := A.in1) hA (s1.heap.objs.size + 1) y u
        have S : ZipSep2 (s1.heap.objs.size + 4) (s1.heap.objs.size + 2) (s1.heap.objs.size + 3) s1.heap.objs.size (s1.heap.objs.size + 1) [s1.heap.objs.size] [s1.heap.objs.size + 1] :=
          zip_sep2 (N := s1.heap.objs.size) (fp1 := []) (fp2 := []) (fun _ h => nomatch h) (fun _ h => nomatch h)
        refine (GoesN.zip2 S D1 D2).mono fun i h0 v h _ ⟨T, a, b, ev, hT, ⟨c, u1, hc1, ea⟩, ⟨d, u2, hd1, eb⟩, ht⟩ => ⟨T, a, b, ev, hT, ⟨sgn c, sgn d, zipS_get hc1 hd1, ⟨u1, ea⟩, ⟨u2, eb⟩⟩, ht⟩
      · have e' : c = s1.heap.objs.size + 4 ∨ c = s1.heap.objs.size + 2 ∨ c = s1.heap.objs.size + 3 ∨ c = s1.heap.objs.size ∨ c = s1.heap.objs.size + 1 := by simpa using hcm
        have hle : s1.heap.objs.size ≤ c := by
          rcases e' with z | z | z | z | z
          · rw [z]; exact Nat.le_add_right _ _
          · rw [z]; exact Nat.le_add_right _ _
          · rw [z]; exact Nat.le_add_right _ _
          · rw [z]; exact Nat.le_refl _
          · rw [z]; exact Nat.le_add_right _ _
        exact I1.fpOk hle (I1.hok.fresh hle)

def enumS (x : Str) : List (V × V) := x.cps.toList.zipIdx.map fun p => (.int (p.2 : Int), sgn p.1)
theorem enumS_len (x : Str) : (enumS x).length = x.cps.size := by simp [enumS]
theorem enumS_get {x : Str} {i c : Nat} (h1 : x.cps[i]? = some c) : (enumS x)[i]? = some (.int (i : Int), sgn c) := by
  have e1 : x.cps.toList[i]? = some c := by simpa using h1
  unfold enumS
  rw [List.getElem?_map, List.getElem?_zipIdx, e1]
  simp
def iEnumS (ta : TA) : TI := fun σ H R => ta σ H fun vs H1 => ∃ x, vs = [.str x] ∧ R (ItP (enumS x)) H1
theorem pi_enumS {X : Cx} {e : Expr} {ta : TA} {p pos tpos : Pos} {elts : List Expr} {kk : Nat} (hg : Gl X "enumerate") (hm : X.mg "enumerate" = none) (ha : PA X [e] ta) (hs : starEach [e] X.env = [(false, eval e X.env)] := by rfl) (hc : X.calm = true := by rfl) :
    PI X (.Tuple elts kk tpos) (.Call (.Name "enumerate" p) [e] [] pos) (iEnumS ta) := by
  refine ⟨fun pins s σ H R I h => ?_⟩
  refine Call_ (ld_blt I hg hm boot_enumerate (PyProof.Rows.callWith_type1 (thn (ha.run pos pins s σ H _ I h) fun us s1 ⟨vs, H1, I1, r1, q1⟩ => ?_) hs rfl))
  obtain ⟨x, ex, q⟩ := q1
  subst ex
  cases r1 with
  | cons r rr =>
    cases rr
    obtain ⟨t, rfl⟩ := r
    refine call_enumerate_str fun h' he hit hsz hk => wpAny_pyIter_enum he ?_
    have I2 : Inv X pins σ H1 { s1 with heap := h' } := I1.kept (t' := s1.toks) hk
    refine ⟨s1.heap.objs.size + 1, [s1.heap.objs.size + 1, s1.heap.objs.size], _, ItP (enumS x), H1, rfl, I2,
      turn_pairs (wr := [s1.heap.objs.size + 1, s1.heap.objs.size]) (enumS x) (enumS_len x) (by simp) (St := fun i h => (∃ old, IsEnum h (s1.heap.objs.size + 1) s1.heap.objs.size (0 + (i : Int)) old) ∧ h.IsStrIter s1.heap.objs.size (strIterType x) x t i) ?_ (fun A hA => ?_) X.A (I1.ok.hd hc) (fun A i s Q E st h => let ⟨⟨_, he⟩, _⟩ := st; wpAny_pyIter_enum he h), ⟨⟨.none, he⟩, hit⟩, fun c hcm => ?_, q⟩
    · rintro i h ⟨⟨_, z1⟩, z2⟩ b hb
      have e' : b = s1.heap.objs.size + 1 ∨ b = s1.heap.objs.size := by simpa using hb
      rcases e' with q | q
      · rw [q]; exact ⟨_, z1, fun v q => nomatch q⟩
      · rw [q]; exact text_obj z2
    · have D1 := Draws.text (prog := X.prog) (w := X.w) (A := A.in1) hA s1.heap.objs.size x t
      refine (GoesN.enumFrom 0 D1 (s1.heap.objs.size + 1) (Nat.succ_ne_self _) (by simp) (by simp)).mono fun i h0 v h _ ⟨T, u, b, ev, hT, ⟨c, u1, hc1, eb⟩, ht⟩ => ⟨T, _, b, ev, hT, ⟨.int (i : Int), sgn c, enumS_get hc1, ⟨u, by rw [Int.zero_add]⟩, ⟨u1, eb⟩⟩, ht⟩
    · have e' : c = s1.heap.objs.size + 1 ∨ c = s1.heap.objs.size := by simpa using hcm
      have hle : s1.heap.objs.size ≤ c := by
        rcases e' with z | z
        · rw [z]; exact Nat.le_add_right _ _
        · rw [z]; exact Nat.le_refl _
      exact I1.fpOk hle (I1.hok.fresh hle)
end Mi

set_option maxHeartbeats 2000000
namespace Mi
open PySem PySem.Spec PyProof.Rows L2 Evl

/-! ### a def of the text that keeps its promise, as its callers see it -/
structure Has (P : Program) (w : World) (K : PySem.W.Frag) (mg : Str → Option Value) (base : Heap) (k : Nat) (x : Str) (ps : List Str) (sp : Sp) : Prop where
  ex : ∃ f fd, mg x = some (.ref f) ∧ PySem.W.keepIn K (.ref f) = true ∧ FnOk P w K mg base CX0 k f fd ps sp ∧ Binds K fd ps [] ∧
    (ps.length = 1 → ∀ (s : Shared) (w1 : Value), BindsTo s fd ⟨[], ps.zip [w1]⟩ (ps.zip [w1])) ∧
    (∀ p q, ps = [p, q] → ∀ (s : Shared) (w1 w2 : Value), BindsTo s fd ⟨[], [q, p].zip [w1, w2]⟩ ([p, q].zip [w2, w1]))
section
variable {X : Cx} {k : Nat} {ps : List Str} {sp : Sp} {E : XK} {x : Str} {p pos : Pos} {e : Expr} {es : List Expr} {t : TA}
theorem pe_callH (F : Has X.prog X.w X.K X.mg X.base k x ps sp) (hr : Room k X.A) (ha : PA X (e :: es) t) (hg : Gl X x := by rfl) (hdb : (x == ("__debug__" : Str)) = false := by decide)
    (he : starEach (e :: es) X.env = (false, eval e X.env) :: starEach es X.env := by rfl) (hpl : (backTo pos (starEach es X.env)).any (·.1) = false := by rfl) :
    PE X (.Call (.Name x p) (e :: es) [] pos) (tCall sp [] E0 t) := by
  obtain ⟨f, fd, hm, hk, F, hb, _⟩ := F.ex
  exact pe_call F hr hg hm hk hb .nil pass0 ha hdb he hpl
/-- f(q=.., p=..): both parameters by name, in the other order; f(p=..) -/
def tCall2 (sp : Sp) (t1 t2 : TE) : TE := fun σ H Q => tCons t1 (tCons t2 tNil) σ H fun vs H2 => ∃ v1 v2, vs = [v1, v2] ∧ sp [v2, v1] H2 Q E0
theorem pe_callH2 {a b : Str} {e1 e2 : Expr} {t1 t2 : TE} {k1 k2 : Pos} (F : Has X.prog X.w X.K X.mg X.base k x [a, b] sp) (hr : Room k X.A) (h1 : PE X e1 t1) (h2 : PE X e2 t2) (hg : Gl X x := by rfl) (hdb : (x == ("__debug__" : Str)) = false := by decide)
    (hall : (backToKw pos (keywordEach [⟨some b, e1, k1⟩, ⟨some a, e2, k2⟩] X.env)).all (·.1.isSome) = true := by rfl)
    (hks : (backToKw pos (keywordEach [⟨some b, e1, k1⟩, ⟨some a, e2, k2⟩] X.env)).filterMap (·.1) = [b, a] := by rfl)
    (hpl : (backToKw pos (keywordEach [⟨some b, e1, k1⟩, ⟨some a, e2, k2⟩] X.env)).any (·.1.isNone) = false := by rfl) :
    PE X (.Call (.Name x p) [] [⟨some b, e1, k1⟩, ⟨some a, e2, k2⟩] pos) (tCall2 sp t1 t2) := by
  obtain ⟨f, fd, hm, hk, F, _, _, hb2⟩ := F.ex
  have hkw : PK X [⟨some b, e1, k1⟩, ⟨some a, e2, k2⟩] (tCons t1 (tCons t2 tNil)) := pk_cons h1 (pk_cons h2 pk_nil)
  refine ⟨fun pins s σ H Q I h => ?_⟩
  refine wpAny_Call_Name_kw (ld_glob I hg hm ?_ hdb)
  refine PySem.W.callWith_KW0 (h₀ := X.base) I.ok.mod.kin hk hall (thn (hkw.run pos pins s σ H _ I h) fun ws s2 ⟨zs, H2, I2, rz, v1, v2, ez, q2⟩ => ⟨I2.kIn, ?_⟩) hpl
  rw [hks]
  subst ez
  obtain ⟨w1, w2, rfl, r1, r2⟩ := vals2 rz
  refine wpAny_call (codeAny_mono (F.run X.A X.stack s2 H2 ⟨[], [b, a].zip [w1, w2]⟩ [w2, w1] [v2, v1] Q E0 hr I2.env0 (hb2 a b rfl s2 w1 w2) (.cons r2 (.cons r1 .nil)) q2) fun r s' hq => ?_)
  cases r with
  | error e => exact pass0 pins σ H2 s2 e s' I2 hq
  | ok fl =>
    cases fl with
    | ret u => exact I2.after hq
    | next => exact False.elim hq
    | brk => exact False.elim hq
    | cont => exact False.elim hq
def tCall1 (sp : Sp) (t1 : TE) : TE := fun σ H Q => tCons t1 tNil σ H fun vs H2 => ∃ v1, vs = [v1] ∧ sp [v1] H2 Q E0
theorem pe_callH1 {a : Str} {e1 : Expr} {t1 : TE} {k1 : Pos} (F : Has X.prog X.w X.K X.mg X.base k x [a] sp) (hr : Room k X.A) (h1 : PE X e1 t1) (hg : Gl X x := by rfl) (hdb : (x == ("__debug__" : Str)) = false := by decide)
    (hall : (backToKw pos (keywordEach [⟨some a, e1, k1⟩] X.env)).all (·.1.isSome) = true := by rfl)
    (hks : (backToKw pos (keywordEach [⟨some a, e1, k1⟩] X.env)).filterMap (·.1) = [a] := by rfl)
    (hpl : (backToKw pos (keywordEach [⟨some a, e1, k1⟩] X.env)).any (·.1.isNone) = false := by rfl) :
    PE X (.Call (.Name x p) [] [⟨some a, e1, k1⟩] pos) (tCall1 sp t1) := by
  obtain ⟨f, fd, hm, hk, F, _, hb1, _⟩ := F.ex
  have hkw : PK X [⟨some a, e1, k1⟩] (tCons t1 tNil) := pk_cons h1 pk_nil
  refine ⟨fun pins s σ H Q I h => ?_⟩
  refine wpAny_Call_Name_kw (ld_glob I hg hm ?_ hdb)
  refine PySem.W.callWith_KW0 (h₀ := X.base) I.ok.mod.kin hk hall (thn (hkw.run pos pins s σ H _ I h) fun ws s2 ⟨zs, H2, I2, rz, v1, ez, q2⟩ => ⟨I2.kIn, ?_⟩) hpl
  rw [hks]
  subst ez
  obtain ⟨w1, rfl, r1⟩ := vals1 rz
  refine wpAny_call (codeAny_mono (F.run X.A X.stack s2 H2 ⟨[], [a].zip [w1]⟩ [w1] [v1] Q E0 hr I2.env0 (hb1 rfl s2 w1) (.cons r1 .nil) q2) fun r s' hq => ?_)
  cases r with
  | error e => exact pass0 pins σ H2 s2 e s' I2 hq
  | ok fl =>
    cases fl with
    | ret u => exact I2.after hq
    | next => exact False.elim hq
    | brk => exact False.elim hq
    | cont => exact False.elim hq
end

/-! ### text * int -/
def reps (x : Str) (n : Nat) : Str := ⟨((List.replicate n x.cps.toList).flatten).toArray⟩
theorem reps_toList (x : Str) (n : Nat) : (reps x n).cps.toList = (List.replicate n x.cps.toList).flatten := rfl
theorem reps_len (x : Str) (n : Nat) : (reps x n).length = n * x.length := by
  show ((List.replicate n x.cps.toList).flatten).toArray.size = n * x.cps.size
  simp
theorem str_ext {x y : Str} (h : x.cps.toList = y.cps.toList) : x = y := by
  cases x; cases y
  simp only [Str.mk.injEq]
  exact Array.toList_inj.mp h
theorem foldl_reps (x : Array Nat) : ∀ (n : Nat) (acc : Array Nat), ((List.replicate n x).foldl (· ++ ·) acc).toList = acc.toList ++ (List.replicate n x.toList).flatten
  | 0, acc => by simp
  | n + 1, acc => by
    rw [List.replicate_succ, List.foldl_cons, foldl_reps x n (acc ++ x), List.replicate_succ, List.flatten_cons]
    simp
def rMulS : R2 := fun x y H Q => ∃ (z : Str) (n : Nat), x = .str z ∧ y = .int (n : Int) ∧ n ≤ 1000 ∧ z.length ≤ 1000 ∧ Q (.str (reps z n)) H
theorem op_mulS {X : Cx} : OpR X (binaryOp .Mult) rMulS := by
  intro pins s σ H x y v u Q I rx ry h
  obtain ⟨z, n, rfl, rfl, hn, hz, q⟩ := h
  obtain ⟨t, rfl⟩ := rx
  obtain ⟨t', rfl⟩ := ry
  have fin : ∀ (w : Str) (tk : Tok) (k : Nat), w = reps z n → EP X pins σ Q (.str w tk) { s with toks := k } := fun w tk k e => ⟨.str (reps z n), H, I.tok _, ⟨tk, by rw [e]⟩, q⟩
  refine PySem.P.mul_str ?_ (fun h1 h2 => ?_) (fun h1 h2 => ?_) ?_
  · rw [decide_eq_false (by omega), decide_eq_false (by omega)]; rfl
  · have : (1000 : Int) ≤ (2 ^ 63 - 1) / (n : Int) := by
      have h3 : (0 : Int) < n := by omega
      refine (Int.le_ediv_iff_mul_le h3).mpr ?_
      omega
    omega
  · unfold PySem.Builtin.Str.tooLong sizeLine
    have : z.length * (n : Int).toNat ≤ 1000 * 1000 := Nat.mul_le_mul hz (by omega)
    exact decide_eq_false (by omega)
  · by_cases h1 : (n : Int) < 1
    · rw [if_pos h1]
      have e : n = 0 := by omega
      subst e
      exact ⟨by decide, fin _ _ _ (str_ext (by rw [reps_toList]; rfl))⟩
    · rw [if_neg h1]
      by_cases h2 : (((n : Int) == 1 || z.length == 0) = true)
      · rw [if_pos h2]
        refine ⟨.str (reps z n), H, I, ⟨t, ?_⟩, q⟩
        congr 1
        refine str_ext ?_
        rw [reps_toList]
        simp only [Bool.or_eq_true, beq_iff_eq] at h2
        rcases h2 with h2 | h2
        · have e : n = 1 := by omega
          subst e
          simp
        · have e : z.cps.toList = [] := by
            have h3 : z.cps.size = 0 := h2
            simpa using h3
          rw [e]
          simp
      · rw [if_neg h2]
        have e : (⟨(List.replicate (n : Int).toNat z.cps).foldl (· ++ ·) #[]⟩ : Str) = reps z n := str_ext (by
          rw [reps_toList]
          have := foldl_reps z.cps n #[]
          simpa using this)
        refine ⟨?_, fin _ _ _ e⟩
        rw [e]
        have h3 := reps_len z n
        have h4 : n * z.length ≤ 1000 * 1000 := Nat.mul_le_mul hn hz
        rw [sizeLine_eq]
        omega

/-! ### text.replace(A, B), A and B names of the module that hold two texts -/
def tRepG (to : TE) (y z : Str) : TE := fun σ H Q => to σ H fun v H1 => ∃ x, v = .str x ∧ x.length + (x.length + 1) * z.length ≤ 16777216 ∧ Q (.str (Txt.replace x y z)) H1
theorem pe_repG {X : Cx} {o : Expr} {to : TE} {a b y z : Str} {u v : Tok} {pa pb apos pos : Pos} (ho : PE X o to) (ma : X.mg a = some (.str y u)) (mb : X.mg b = some (.str z v)) (hu : u ≠ 0) (hv : v ≠ 0) (huv : u ≠ v) (hyz : (y == z) = false)
    (ga : Gl X a := by rfl) (gb : Gl X b := by rfl) (da : (a == ("__debug__" : Str)) = false := by decide) (db : (b == ("__debug__" : Str)) = false := by decide)
    (hst : starEach [.Name a pa, .Name b pb] X.env = [(false, eval (.Name a pa) X.env), (false, eval (.Name b pb) X.env)] := by rfl)
    (hbase : attributeBase o "replace" X.env (eval o X.env) = eval o X.env := by rfl) (hline : (apos.endLine == pos.line) = true := by rfl) :
    PE X (.Call (.Attribute o "replace" apos) [.Name a pa, .Name b pb] [] pos) (tRepG to y z) := by
  refine ⟨fun pins s σ H Q I h => ?_⟩
  refine PySem.Call_method2 hbase hst hline (thn (ho.run pins s σ H _ I h) fun v' s1 q => ?_)
  obtain ⟨v', H1, I1, r1, x, e1, hb, q⟩ := q
  subst e1
  obtain ⟨tx, e2⟩ := r1
  subst e2
  refine ⟨"str", _, PySem.F.plainAttrs_str, PySem.F.slot_str_replace, PySem.F.type_str_replace, typeIs_str _ _ _, (fun _ e => nomatch e), Calls.callWith_builtin rfl (Calls.evalArgs_plain (Calls.spliced_cons ?_))⟩
  refine ld_glob I1 ga ma (Calls.spliced_cons (ld_glob I1 gb mb (Calls.spliced_nil ?_) db)) da
  exact PySem.SC.replace hu hv huv hyz hb fun t' k => ⟨.str (Txt.replace x y z), H1, I1.tok k, ⟨t', rfl⟩, q⟩
theorem replL_one (a b : Nat) : ∀ l : List Nat, StrLaws.replL [a] [b] l = l.map fun c => if c = a then b else c
  | [] => StrLaws.replL_nil
  | c :: r => by
    by_cases h : c = a
    · subst h
      rw [StrLaws.replL_hit (by simp) (by simp)]
      show [b] ++ StrLaws.replL [c] [b] r = _
      rw [replL_one c b r]
      simp
    · rw [StrLaws.replL_miss (by simpa using h), replL_one a b r]
      simp [h]

/-! ### texts.count(text) -/
def rCntS (K : PySem.W.Frag) : V → List V → Hp → VK → Prop := fun x xs H Q => ∃ (p : Addr) (ys : List Str) (z : Str), x = .ref p ∧ xs = [.str z] ∧ SqL K H p (ys.map V.str) ∧ Q (.int (ys.count z : Nat)) H
def eqs (z : Str) : Value → Bool
  | .str y _ => y == z
  | _ => false
theorem eqs_count (z : Str) : ∀ {ys : List Str} {its : List Value}, Vals (ys.map V.str) its → its.countP (eqs z) = ys.count z
  | [], _, .nil => rfl
  | y :: ys, _, .cons q t => by
    obtain ⟨tk, rfl⟩ := q
    rw [List.countP_cons, List.count_cons, eqs_count z t]
    rfl
theorem eqs_at (z : Str) (t : Tok) (A : Around) (s : Shared) : ∀ {ys : List Str} {its : List Value}, Vals (ys.map V.str) its → ∀ y ∈ its, SeqAt.EqAt A s y (.str z t) (eqs z y)
  | [], _, .nil, _, h => nomatch h
  | x :: ys, _, .cons q r, y, h => by
    rcases List.mem_cons.mp h with e | h
    · subst e
      obtain ⟨tk, rfl⟩ := q
      exact SeqAt.EqAt.str_str x tk z t
    · exact eqs_at z t A s r y h
theorem mt_scount {X : Cx} : MtR X "list.count" (rCntS X.K) := by
  intro pins s σ H x xs v us Q I rx rxs h
  obtain ⟨p, ys, z, rfl, rfl, hs, q⟩ := h
  cases rx
  obtain ⟨u, rfl, ru⟩ := rxs.one
  obtain ⟨t, rfl⟩ := ru
  obtain ⟨its, rv, ⟨⟨cls, dd, data, sl⟩, n, ho, hc, hdn, hd⟩, hlen⟩ := I.list hs
  simp only at hc hd
  subst hc hd
  refine call_meets PySem.F.slot_list_count ⟨_, ho, rfl⟩ PySem.F.entry_list_count (PySem.F.args_list_count_2 _ _)
    (SeqAt.list_countAt p its.toArray n dd sl (.str z t) (eqs z)) ⟨ho, fun y hy => eqs_at z t _ _ rv y (by simpa using hy), ?_⟩
  have ec : its.toArray.toList.countP (eqs z) = ys.count z := eqs_count z rv
  refine ⟨.int (ys.count z : Nat), H, I.tok _, ⟨s.toks, ?_⟩, q⟩
  show Value.int ((its.toArray.toList.countP (eqs z) : Nat) : Int) s.toks = Value.int ((ys.count z : Nat) : Int) s.toks
  rw [ec]
end Mi

set_option maxHeartbeats 2000000
namespace Mi
open PySem PySem.Spec PyProof.Rows L2 Evl

/-! ### what a value is: a flat one, a list that is read, a tracked list, a tuple -/
structure MP where
  p : Hp → V → Prop
  m : ∀ {H H' : Hp} {x : V}, Ex H H' → p H x → p H' x
inductive Dd where
  | D
  | P (q : MP)
  | v (x : V)
  | l (xs : List V)
  | n (xs : List V)
  | u (xs : List V)
  | L (ds : List Dd)
  | N (ds : List Dd)
  | U (ds : List Dd)
mutual
def Is (K : PySem.W.Frag) (H : Hp) : Dd → V → Prop
  | .D, y => ∃ p kvs, y = .ref p ∧ H p = some (.dK kvs)
  | .P q, y => q.p H y
  | .v x, y => y = x
  | .l xs, y => ∃ p, y = .ref p ∧ SqL K H p xs
  | .n xs, y => ∃ p, y = .ref p ∧ H p = some (.lst xs)
  | .u xs, y => ∃ p, y = .ref p ∧ SqT K H p xs
  | .L ds, y => ∃ p vs, y = .ref p ∧ SqL K H p vs ∧ IsE K H ds vs
  | .N ds, y => ∃ p vs, y = .ref p ∧ H p = some (.lst vs) ∧ IsE K H ds vs
  | .U ds, y => ∃ p vs, y = .ref p ∧ SqT K H p vs ∧ IsE K H ds vs
def IsE (K : PySem.W.Frag) (H : Hp) : List Dd → List V → Prop
  | [], vs => vs = []
  | d :: ds, vs => ∃ x r, vs = x :: r ∧ Is K H d x ∧ IsE K H ds r
end
abbrev Dd.i (i : Int) : Dd := .v (.int i)
abbrev Dd.s (x : Str) : Dd := .v (.str x)
abbrev Dd.b (b : Bool) : Dd := .v (.bl b)
abbrev vis (ns : List Int) : List V := ns.map V.int
abbrev vss (ys : List Str) : List V := ys.map V.str
section
variable {K : PySem.W.Frag} {H H' : Hp} {d : Dd} {x y : V}
mutual
theorem Is.mono (e : Ex H H') : ∀ {d : Dd} {x : V}, Is K H d x → Is K H' d x
  | .D, _, h => by obtain ⟨p, kvs, e1, q⟩ := h; exact ⟨p, kvs, e1, e p _ q⟩
  | .P q, _, h => q.m e h
  | .v _, _, h => h
  | .l _, _, h => by obtain ⟨p, e1, q⟩ := h; exact ⟨p, e1, ex_l e q⟩
  | .n _, _, h => by obtain ⟨p, e1, q⟩ := h; exact ⟨p, e1, e p _ q⟩
  | .u _, _, h => by obtain ⟨p, e1, q⟩ := h; exact ⟨p, e1, ex_t e q⟩
  | .L _, _, h => by obtain ⟨p, vs, e1, q, r⟩ := h; exact ⟨p, vs, e1, ex_l e q, IsE.mono e r⟩
  | .N _, _, h => by obtain ⟨p, vs, e1, q, r⟩ := h; exact ⟨p, vs, e1, e p _ q, IsE.mono e r⟩
  | .U _, _, h => by obtain ⟨p, vs, e1, q, r⟩ := h; exact ⟨p, vs, e1, ex_t e q, IsE.mono e r⟩
theorem IsE.mono (e : Ex H H') : ∀ {ds : List Dd} {vs : List V}, IsE K H ds vs → IsE K H' ds vs
  | [], _, h => h
  | _ :: _, _, h => by obtain ⟨x, r, e1, a, b⟩ := h; exact ⟨x, r, e1, Is.mono e a, IsE.mono e b⟩
end
theorem Is.n2l {xs : List V} (h : Is K H (.n xs) x) : Is K H (.l xs) x := by
  obtain ⟨p, e1, q⟩ := h; exact ⟨p, e1, sq_of q⟩
end
def IsAll (K : PySem.W.Frag) (H : Hp) (ds : List Dd) (vs : List V) : Prop := Paired (fun d v => Is K H d v) ds vs

/-! ### what evaluates to what -/
def Er (K : PySem.W.Frag) (te : TE) (σ : L2.St) (H : Hp) (d : Dd) : Prop := ∀ H1, Ex H H1 → ∀ Q : VK, (∀ v H2, Ex H1 H2 → Is K H2 d v → Q v H2) → te σ H1 Q
def Era (K : PySem.W.Frag) (ta : TA) (σ : L2.St) (H : Hp) (ds : List Dd) : Prop := ∀ H1, Ex H H1 → ∀ Q : List V → Hp → Prop, (∀ vs H2, Ex H1 H2 → IsAll K H2 ds vs → Q vs H2) → ta σ H1 Q
def Ro (K : PySem.W.Frag) (r : R2) (d1 d2 d : Dd) : Prop := ∀ x y H1, Is K H1 d1 x → Is K H1 d2 y → ∀ Q : VK, (∀ v H2, Ex H1 H2 → Is K H2 d v → Q v H2) → r x y H1 Q
def Rc (K : PySem.W.Frag) (r : List V → Hp → VK → Prop) (ds : List Dd) (d : Dd) : Prop := ∀ vs H1, IsAll K H1 ds vs → ∀ Q : VK, (∀ v H2, Ex H1 H2 → Is K H2 d v → Q v H2) → r vs H1 Q
section
variable {K : PySem.W.Frag} {σ : L2.St} {H H' : Hp} {te ta tb tc : TE} {t u : TT} {tr : TA} {d d1 d2 d' : Dd} {x y : V} {r : R2}
theorem IsAll.mono (e : Ex H H') : ∀ {ds : List Dd} {vs : List V}, IsAll K H ds vs → IsAll K H' ds vs
  | _, _, .nil => .nil
  | _, _, .cons a b => .cons (a.mono e) (IsAll.mono e b)
theorem Er.mono (e : Ex H H') (h : Er K te σ H d) : Er K te σ H' d := fun H1 a Q q => h H1 (e.trans a) Q q
theorem Er.to (h : Er K te σ H d) (e : d = d') : Er K te σ H d' := e ▸ h
theorem Er.n2l {xs : List V} (h : Er K te σ H (.n xs)) : Er K te σ H (.l xs) := fun H1 a Q q => h H1 a Q fun v H2 e z => q v H2 e z.n2l
theorem er_var {i : Nat} (h : σ[i]? = some (some x)) (hd : Is K H d x) : Er K (tVar i) σ H d := fun H1 e _ q => ⟨x, h, q x H1 (Ex.refl H1) (hd.mono e)⟩
theorem er_v {i : Nat} (h : σ[i]? = some (some x)) : Er K (tVar i) σ H (.v x) := er_var h rfl
theorem er_c : Er K (tC x) σ H (.v x) := fun H1 _ _ q => q x H1 (Ex.refl H1) rfl
theorem er_op (ha : Er K ta σ H d1) (hb : Er K tb σ H d2) (hr : Ro K r d1 d2 d) : Er K (tOp r ta tb) σ H d := fun H1 e Q q =>
  ha H1 e _ fun v1 H2 e2 z1 => hb H2 (e.trans e2) _ fun v2 H3 e3 z2 => hr v1 v2 H3 (z1.mono e3) z2 Q fun v H4 e4 z => q v H4 ((e2.trans e3).trans e4) z
theorem era_nil : Era K tNil σ H [] := fun H1 _ _ q => q [] H1 (Ex.refl H1) .nil
theorem era_cons {ds : List Dd} (h : Er K ta σ H d) (hr : Era K tr σ H ds) : Era K (tCons ta tr) σ H (d :: ds) := fun H1 e _ q =>
  h H1 e _ fun v1 H2 e2 z1 => hr H2 (e.trans e2) _ fun vs H3 e3 z2 => q _ H3 (e2.trans e3) (.cons (z1.mono e3) z2)
theorem er_cb {rc : List V → Hp → VK → Prop} {ds : List Dd} (h : Era K tr σ H ds) (hr : Rc K rc ds d) : Er K (tCB rc tr) σ H d := fun H1 e Q q =>
  h H1 e _ fun vs H2 e2 z => hr vs H2 z Q fun v H3 e3 z3 => q v H3 (e2.trans e3) z3
theorem flat_all {vs : List V} {ws : List V} (h : IsAll K H (vs.map Dd.v) ws) : ws = vs := by
  induction vs generalizing ws with
  | nil => cases h; rfl
  | cons a r ih =>
    cases h with
    | cons h1 h2 =>
      rw [ih h2]
      have e : _ = a := h1
      rw [e]
theorem er_lst {vs : List V} (h : Era K tr σ H (vs.map Dd.v)) (hl : vs.length ≤ 100000) : Er K (tLst tr) σ H (.n vs) := fun H1 e _ q =>
  h H1 e _ fun ws H2 e2 z => by
    have ew := flat_all z
    subst ew
    exact ⟨sz_of hl, fun p hp => q _ _ (e2.trans (Ex.new hp)) ⟨p, rfl, upd_same⟩⟩
theorem er_tup {vs : List V} (h : Era K tr σ H (vs.map Dd.v)) (hl : vs.length ≤ 100000) : Er K (tTup tr) σ H (.u vs) := fun H1 e _ q =>
  h H1 e _ fun ws H2 e2 z => by
    have ew := flat_all z
    subst ew
    exact ⟨sz_of hl, fun p hp => q _ _ (e2.trans (Ex.new hp)) ⟨p, rfl, st_of upd_same⟩⟩

/-! ### operators -/
theorem ro_I0 {g : Int → Int → V} {i j : Int} : Ro K (rI0 g) (.v (.int i)) (.v (.int j)) (.v (g i j)) := by
  rintro _ _ H1 rfl rfl Q q
  exact ⟨i, j, rfl, rfl, q _ H1 (Ex.refl H1) rfl⟩
theorem ro_I {C : Int → Int → Prop} {g : Int → Int → V} {i j : Int} (hc : C i j) : Ro K (rI C g) (.v (.int i)) (.v (.int j)) (.v (g i j)) := by
  rintro _ _ H1 rfl rfl Q q
  exact ⟨i, j, rfl, rfl, hc, q _ H1 (Ex.refl H1) rfl⟩
theorem ro_eq (h : scal x y = true) : Ro K rEq (.v x) (.v y) (.v (.bl (decide (x = y)))) := by
  rintro _ _ H1 rfl rfl Q q
  exact ⟨h, q _ H1 (Ex.refl H1) rfl⟩
theorem ro_ne (h : scal x y = true) : Ro K rNe (.v x) (.v y) (.v (.bl (!decide (x = y)))) := by
  rintro _ _ H1 rfl rfl Q q
  exact ⟨h, q _ H1 (Ex.refl H1) rfl⟩
theorem ro_ixL {xs : List V} {i : Int} (h0 : 0 ≤ i) (h : xs[i.toNat]? = some x) : Ro K (rIxL K) (.l xs) (.v (.int i)) (.v x) := by
  rintro _ _ H1 ⟨p, rfl, hp⟩ rfl Q q
  have e : ((i.toNat : Nat) : Int) = i := Int.toNat_of_nonneg h0
  exact ⟨p, xs, i, x, rfl, rfl, hp, by rw [← e]; exact atI_nat h, q _ H1 (Ex.refl H1) rfl⟩
theorem ro_ixN {xs : List V} {i : Int} (h0 : 0 ≤ i) (h : xs[i.toNat]? = some x) : Ro K (rIxL K) (.n xs) (.v (.int i)) (.v x) := fun v w H1 a b => ro_ixL h0 h v w H1 a.n2l b
theorem ro_ixT {xs : List V} {i : Int} (h0 : 0 ≤ i) (h : xs[i.toNat]? = some x) : Ro K (rIxT K) (.u xs) (.v (.int i)) (.v x) := by
  rintro _ _ H1 ⟨p, rfl, hp⟩ rfl Q q
  have e : ((i.toNat : Nat) : Int) = i := Int.toNat_of_nonneg h0
  exact ⟨p, xs, i, x, rfl, rfl, hp, by rw [← e]; exact atI_nat h, q _ H1 (Ex.refl H1) rfl⟩
theorem ro_ixS {z : Str} {i : Int} {c : Nat} (hz : z.length ≤ 100000) (h0 : 0 ≤ i) (h : z.cps.toList[i.toNat]? = some c) : Ro K rIxS (.v (.str z)) (.v (.int i)) (.v (sgn c)) := by
  rintro _ _ H1 rfl rfl Q q
  have e : ((i.toNat : Nat) : Int) = i := Int.toNat_of_nonneg h0
  exact ⟨z, i, c, rfl, rfl, sz_of hz, by rw [← e]; exact atI_nat h, q _ H1 (Ex.refl H1) rfl⟩
def rAddS2 : R2 := fun x y H Q => ∃ i j, x = .str i ∧ y = .str j ∧ i.length + j.length ≤ sizeLine ∧ Q (.str (i ++ j)) H
theorem op_addS {X : Cx} : OpR X (binaryOp .Add) rAddS2 := op_add_str
theorem ro_addS {a b : Str} (h : a.length + b.length ≤ 100000) : Ro K rAddS2 (.v (.str a)) (.v (.str b)) (.v (.str (a ++ b))) := by
  rintro _ _ H1 rfl rfl Q q
  exact ⟨a, b, rfl, rfl, sz_of h, q _ H1 (Ex.refl H1) rfl⟩
theorem ro_mulS {a : Str} {n : Nat} (hn : n ≤ 1000) (ha : a.length ≤ 1000) : Ro K rMulS (.v (.str a)) (.v (.int (n : Int))) (.v (.str (reps a n))) := by
  rintro _ _ H1 rfl rfl Q q
  exact ⟨a, n, rfl, rfl, hn, ha, q _ H1 (Ex.refl H1) rfl⟩
theorem ro_cat {xs zs : List V} (h : xs.length + zs.length ≤ 100000) : Ro K rCat (.n xs) (.n zs) (.n (xs ++ zs)) := by
  rintro _ _ H1 ⟨p, rfl, hp⟩ ⟨p', rfl, hp'⟩ Q q
  exact ⟨p, p', xs, zs, rfl, rfl, hp, hp', sz_of h, fun l hl => q _ _ (Ex.new hl) ⟨l, rfl, upd_same⟩⟩
theorem ro_rep {xs : List V} {k : Nat} (h : xs.length * k ≤ 100000) (hk : k ≤ 100000) : Ro K rRep (.n xs) (.v (.int (k : Int))) (.n (List.replicate k xs).flatten) := by
  rintro _ _ H1 ⟨p, rfl, hp⟩ rfl Q q
  exact ⟨p, k, xs, rfl, rfl, hp, by omega, by omega, by rw [Int.toNat_natCast]; exact sz_of h, fun l hl => q _ _ (Ex.new hl) ⟨l, rfl, by rw [Int.toNat_natCast]; exact upd_same⟩⟩
theorem ro_inL {neg : Bool} {xs : List V} (hx : flatV x = true) (ha : xs.all flatV = true) : Ro K (rIn K neg) (.v x) (.l xs) (.v (.bl (if neg then !inV x xs else inV x xs))) := by
  rintro _ _ H1 rfl ⟨p, rfl, hp⟩ Q q
  exact ⟨p, xs, rfl, .inl hp, hx, ha, q _ H1 (Ex.refl H1) rfl⟩
theorem ro_inN {neg : Bool} {xs : List V} (hx : flatV x = true) (ha : xs.all flatV = true) : Ro K (rIn K neg) (.v x) (.n xs) (.v (.bl (if neg then !inV x xs else inV x xs))) := fun v w H1 a b => ro_inL hx ha v w H1 a b.n2l
theorem ro_inU {neg : Bool} {xs : List V} (hx : flatV x = true) (ha : xs.all flatV = true) : Ro K (rIn K neg) (.v x) (.u xs) (.v (.bl (if neg then !inV x xs else inV x xs))) := by
  rintro _ _ H1 rfl ⟨p, rfl, hp⟩ Q q
  exact ⟨p, xs, rfl, .inr hp, hx, ha, q _ H1 (Ex.refl H1) rfl⟩
theorem ro_inS {c : Nat} {z : Str} : Ro K rInS (.v (sgn c)) (.v (.str z)) (.v (.bl (decide (c ∈ z.cps.toList)))) := by
  rintro _ _ H1 rfl rfl Q q
  exact ⟨c, z, rfl, rfl, q _ H1 (Ex.refl H1) rfl⟩
theorem ro_niS {c : Nat} {z : Str} : Ro K rNotInS (.v (sgn c)) (.v (.str z)) (.v (.bl (!decide (c ∈ z.cps.toList)))) := by
  rintro _ _ H1 rfl rfl Q q
  exact ⟨c, z, rfl, rfl, q _ H1 (Ex.refl H1) rfl⟩
theorem ro_isN : Ro K rIsN (.v x) (.v .non) (.v (.bl (decide (x = .non)))) := by
  rintro _ _ H1 rfl rfl Q q
  exact ⟨rfl, q _ H1 (Ex.refl H1) rfl⟩
theorem ro_notN : Ro K rNotN (.v x) (.v .non) (.v (.bl (!decide (x = .non)))) := by
  rintro _ _ H1 rfl rfl Q q
  exact ⟨rfl, q _ H1 (Ex.refl H1) rfl⟩
end
end Mi

set_option maxHeartbeats 2000000
namespace Mi
open PySem PySem.Spec PyProof.Rows L2 Evl PySem.W
theorem zipS_at {x y : Str} {i : Nat} {a b : V} (h : (zipS x y)[i]? = some (a, b)) : ∃ c d, x.cps[i]? = some c ∧ y.cps[i]? = some d ∧ a = sgn c ∧ b = sgn d := by
  unfold zipS at h
  rw [List.getElem?_map] at h
  cases e : (x.cps.toList.zip y.cps.toList)[i]? with
  | none => rw [e] at h; cases h
  | some p =>
    rw [e] at h
    obtain ⟨c, d⟩ := p
    have h2 := List.getElem?_zip_eq_some.mp e
    have h3 : (sgn c, sgn d) = (a, b) := Option.some.inj h
    injection h3 with h4 h5
    exact ⟨c, d, by simpa using h2.1, by simpa using h2.2, h4.symm, h5.symm⟩
section
variable {K : PySem.W.Frag} {σ : L2.St} {H H' : Hp} {te ta tb tc : TE} {t u : TT} {tr : TA} {d d1 d2 d' : Dd} {x y : V} {r : R2}

/-! ### lists of whole numbers compared -/
theorem dpAll_ints : ∀ ns : List Int, DpAll K H (vis ns) (ns.map PyData.int)
  | [] => .nil
  | n :: r => .cons (.int n) (dpAll_ints r)
theorem eqv_ints : ∀ ns ms : List Int, PyData.eqvAll (ns.map PyData.int) (ms.map PyData.int) = decide (ns = ms)
  | [], [] => by simp [PyData.eqvAll]
  | [], _ :: _ => by simp [PyData.eqvAll]
  | _ :: _, [] => by simp [PyData.eqvAll]
  | a :: r, b :: t => by
    simp only [List.map_cons, PyData.eqvAll, PyData.eqv, eqv_ints r t]
    by_cases h : a = b <;> by_cases h' : r = t <;> simp [h, h']
theorem shaped_tup (ns : List Int) : SeqAt.shaped (.tuple (ns.map PyData.int)) = true := by
  simp [SeqAt.shaped, PyData.canLay0, PyData.depth, ke_canLayAll0, ke_depthAll]
theorem ro_eqL {ns ms : List Int} : Ro K (rEqD K) (.l (vis ns)) (.l (vis ms)) (.v (.bl (decide (ns = ms)))) := by
  rintro _ _ H1 ⟨p, rfl, hp⟩ ⟨p', rfl, hp'⟩ Q q
  refine ⟨_, _, .lst hp (dpAll_ints ns), .lst hp' (dpAll_ints ms), ke_shaped_ints ns, ke_shaped_ints ms, q _ H1 (Ex.refl H1) ?_⟩
  show V.bl (PyData.eqvAll _ _) = _
  rw [eqv_ints]
theorem ro_neL {ns ms : List Int} : Ro K (rNeD K) (.l (vis ns)) (.l (vis ms)) (.v (.bl (!decide (ns = ms)))) := by
  rintro _ _ H1 ⟨p, rfl, hp⟩ ⟨p', rfl, hp'⟩ Q q
  refine ⟨_, _, .lst hp (dpAll_ints ns), .lst hp' (dpAll_ints ms), ke_shaped_ints ns, ke_shaped_ints ms, q _ H1 (Ex.refl H1) ?_⟩
  show V.bl (!PyData.eqvAll _ _) = _
  rw [eqv_ints]
theorem ro_eqU {ns ms : List Int} : Ro K (rEqD K) (.u (vis ns)) (.u (vis ms)) (.v (.bl (decide (ns = ms)))) := by
  rintro _ _ H1 ⟨p, rfl, hp⟩ ⟨p', rfl, hp'⟩ Q q
  refine ⟨_, _, .tup hp (dpAll_ints ns), .tup hp' (dpAll_ints ms), shaped_tup ns, shaped_tup ms, q _ H1 (Ex.refl H1) ?_⟩
  show V.bl (PyData.eqvAll _ _) = _
  rw [eqv_ints]

/-! ### built-ins -/
def rInt1 : List V → Hp → VK → Prop := fun xs H Q => (∃ i, xs = [.int i] ∧ Q (.int i) H) ∨ ∃ k, xs = [.bl k] ∧ Q (.int (if k then 1 else 0)) H
def rTupS (K : PySem.W.Frag) : List V → Hp → VK → Prop := fun xs H Q => ∃ p ys, xs = [.ref p] ∧ ((SqL K H p ys ∧ ∀ l, H l = none → Q (.ref l) (upd H l (.tup ys))) ∨ (SqT K H p ys ∧ Q (.ref p) H))
def rLenStr : List V → Hp → VK → Prop := fun xs H Q => ∃ z, xs = [.str z] ∧ z.length ≤ sizeLine ∧ Q (.int z.length) H
theorem cr_len {X : Cx} : CallR X (.builtin "len") (rLenS X.K) := call_len_seq
theorem cr_lenStr {X : Cx} : CallR X (.builtin "len") rLenStr := call_len_str
theorem cr_int {X : Cx} : CallR X (.type "int") rInt1 := call_int1
theorem cr_list {X : Cx} : CallR X (.type "list") (rListS X.K) := call_list_of
theorem cr_tuple {X : Cx} : CallR X (.type "tuple") (rTupS X.K) := call_tuple_of
theorem cr_max2 {X : Cx} (hc : X.calm = true := by rfl) : CallR X (.builtin "max") rMax2 := call_max2 hc
theorem cr_isi {X : Cx} : CallR X (.builtin "isinstance") (rIsi X.K) := call_isi
theorem rc_lenL {xs : List V} : Rc K (rLenS K) [.l xs] (.v (.int (xs.length : Int))) := by
  rintro _ H1 (_ | ⟨⟨p, rfl, hp⟩, _ | _⟩) Q q
  exact ⟨p, xs, rfl, .inl hp, q _ H1 (Ex.refl H1) rfl⟩
theorem rc_lenN {xs : List V} : Rc K (rLenS K) [.n xs] (.v (.int (xs.length : Int))) := by
  rintro _ H1 (_ | ⟨⟨p, rfl, hp⟩, _ | _⟩) Q q
  exact ⟨p, xs, rfl, .inl (sq_of hp), q _ H1 (Ex.refl H1) rfl⟩
theorem rc_lenU {xs : List V} : Rc K (rLenS K) [.u xs] (.v (.int (xs.length : Int))) := by
  rintro _ H1 (_ | ⟨⟨p, rfl, hp⟩, _ | _⟩) Q q
  exact ⟨p, xs, rfl, .inr hp, q _ H1 (Ex.refl H1) rfl⟩
theorem rc_lenS {z : Str} (hz : z.length ≤ 100000) : Rc K rLenStr [.v (.str z)] (.v (.int (z.length : Int))) := by
  rintro _ H1 (_ | ⟨rfl, _ | _⟩) Q q
  exact ⟨z, rfl, sz_of hz, q _ H1 (Ex.refl H1) rfl⟩
theorem rc_int {i : Int} : Rc K rInt1 [.v (.int i)] (.v (.int i)) := by
  rintro _ H1 (_ | ⟨rfl, _ | _⟩) Q q
  exact .inl ⟨i, rfl, q _ H1 (Ex.refl H1) rfl⟩
theorem rc_intB {b : Bool} : Rc K rInt1 [.v (.bl b)] (.v (.int (if b then 1 else 0))) := by
  rintro _ H1 (_ | ⟨rfl, _ | _⟩) Q q
  exact .inr ⟨b, rfl, q _ H1 (Ex.refl H1) rfl⟩
theorem rc_max2 {i j : Int} : Rc K rMax2 [.v (.int i), .v (.int j)] (.v (.int (if j > i then j else i))) := by
  rintro _ H1 (_ | ⟨rfl, _ | ⟨rfl, _ | _⟩⟩) Q q
  exact ⟨i, j, rfl, q _ H1 (Ex.refl H1) rfl⟩
theorem rc_listL {xs : List V} : Rc K (rListS K) [.l xs] (.n xs) := by
  rintro _ H1 (_ | ⟨⟨p, rfl, hp⟩, _ | _⟩) Q q
  exact ⟨p, xs, rfl, .inl hp, fun l hl => q _ _ (Ex.new hl) ⟨l, rfl, upd_same⟩⟩
theorem rc_listU {xs : List V} : Rc K (rListS K) [.u xs] (.n xs) := by
  rintro _ H1 (_ | ⟨⟨p, rfl, hp⟩, _ | _⟩) Q q
  exact ⟨p, xs, rfl, .inr hp, fun l hl => q _ _ (Ex.new hl) ⟨l, rfl, upd_same⟩⟩
theorem rc_tupL {xs : List V} : Rc K (rTupS K) [.l xs] (.u xs) := by
  rintro _ H1 (_ | ⟨⟨p, rfl, hp⟩, _ | _⟩) Q q
  exact ⟨p, xs, rfl, .inl ⟨hp, fun l hl => q _ _ (Ex.new hl) ⟨l, rfl, st_of upd_same⟩⟩⟩
theorem rc_tupN {xs : List V} : Rc K (rTupS K) [.n xs] (.u xs) := fun vs H1 h Q q => by
  cases h with
  | cons a b => exact rc_tupL _ H1 (.cons a.n2l b) Q q
/-- isinstance(x, T) -/
theorem rc_isi {n : String} {b : Bool} (t : Value) (ht : ∀ H1 v, Is K H1 d v → TyX K H1 v t) (hk : PySem.W.kitOne K t (.type n) = some b) : Rc K (rIsi K) [d, .v (.ty n)] (.v (.bl b)) := by
  rintro _ H1 (_ | ⟨hd, _ | ⟨rfl, _ | _⟩⟩) Q q
  exact ⟨_, _, t, .type n, b, rfl, .ty n, ht _ _ hd, hk, q _ H1 (Ex.refl H1) rfl⟩
theorem ty_u {xs : List V} {H1 : Hp} {v : V} (h : Is K H1 (.u xs) v) : TyX K H1 v (.type "tuple") := by
  obtain ⟨p, rfl, hp⟩ := h
  rcases hp with (hp | ⟨o, hp⟩) | ⟨o, its, n, h1, h2, _⟩
  · exact .base (.tup hp)
  · exact .fTuple hp
  · exact .kTuple h1 h2
theorem ty_l {xs : List V} {H1 : Hp} {v : V} (h : Is K H1 (.l xs) v) : TyX K H1 v (.type "list") := by
  obtain ⟨p, rfl, hp⟩ := h
  rcases hp with (hp | ⟨o, hp⟩) | ⟨o, its, n, h1, h2, _⟩
  · exact .base (.lst hp)
  · exact .base (.frz hp)
  · exact .kList h1 h2
theorem rc_isi_int {n : String} {i : Int} {b : Bool} (h : kitB "int" n = some b) : Rc K (rIsi K) [.v (.int i), .v (.ty n)] (.v (.bl b)) := rc_isi (.type "int") (fun _ _ e => by rw [show _ = V.int i from e]; exact .base (.int i)) (kit_ty h)
theorem rc_isi_str {n : String} {i : Str} {b : Bool} (h : kitB "str" n = some b) : Rc K (rIsi K) [.v (.str i), .v (.ty n)] (.v (.bl b)) := rc_isi (.type "str") (fun _ _ e => by rw [show _ = V.str i from e]; exact .base (.str i)) (kit_ty h)
theorem rc_isi_bl {n : String} {i : Bool} {b : Bool} (h : kitB "bool" n = some b) : Rc K (rIsi K) [.v (.bl i), .v (.ty n)] (.v (.bl b)) := rc_isi (.type "bool") (fun _ _ e => by rw [show _ = V.bl i from e]; exact .base (.bl i)) (kit_ty h)
theorem rc_isi_non {n : String} {b : Bool} (h : kitB "NoneType" n = some b) : Rc K (rIsi K) [.v .non, .v (.ty n)] (.v (.bl b)) := rc_isi (.type "NoneType") (fun _ _ e => by rw [show _ = V.non from e]; exact .base .non) (kit_ty h)
theorem rc_isi_u {n : String} {xs : List V} {b : Bool} (h : kitB "tuple" n = some b) : Rc K (rIsi K) [.u xs, .v (.ty n)] (.v (.bl b)) := rc_isi (.type "tuple") (fun _ _ e => ty_u e) (kit_ty h)
theorem rc_isi_l {n : String} {xs : List V} {b : Bool} (h : kitB "list" n = some b) : Rc K (rIsi K) [.l xs, .v (.ty n)] (.v (.bl b)) := rc_isi (.type "list") (fun _ _ e => ty_l e) (kit_ty h)

/-! ### methods -/
def Rm (K : PySem.W.Frag) (T : String) (r : V → List V → Hp → VK → Prop) (d0 : Dd) (ds : List Dd) (d : Dd) : Prop :=
  (∀ x H1, Is K H1 d0 x → tyV K T x H1) ∧ ∀ x vs H1, Is K H1 d0 x → IsAll K H1 ds vs → ∀ Q : VK, (∀ v H2, Ex H1 H2 → Is K H2 d v → Q v H2) → r x vs H1 Q
theorem er_bm {T : String} {rm : V → List V → Hp → VK → Prop} {ds : List Dd} {d0 : Dd} {to : TE} (ho : Er K to σ H d0) (h : Era K tr σ H ds) (hr : Rm K T rm d0 ds d) : Er K (tBM K T rm to tr) σ H d := fun H1 e Q q =>
  ho H1 e _ fun x H2 e2 z => ⟨hr.1 x H2 z, h H2 (e.trans e2) _ fun vs H3 e3 z3 => hr.2 x vs H3 (z.mono e3) z3 Q fun v H4 e4 z4 => q v H4 ((e2.trans e3).trans e4) z4⟩
def rJoin (K : PySem.W.Frag) : V → List V → Hp → VK → Prop := fun x xs H Q => ∃ a p, ∃ ys : List Str, x = .str a ∧ xs = [.ref p] ∧ (SqL K H p (ys.map V.str) ∨ SqT K H p (ys.map V.str)) ∧ (ys.map (·.length)).sum + ys.length * a.length ≤ 16777216 ∧ Q (.str (Txt.join a ys)) H
theorem mt_joinN {X : Cx} : MtR X "str.join" (rJoin X.K) := mt_join
def rSIndex : V → List V → Hp → VK → Prop := fun x xs H Q => ∃ a b i rest, x = .str a ∧ xs = [.str b] ∧ Builtin.Str.occurrences a b 0 a.length 1 = i :: rest ∧ Q (.int (i : Nat)) H
theorem mt_sindexN {X : Cx} : MtR X "str.index" rSIndex := mt_sindex
theorem rm_join {a : Str} {ys : List Str} (hz : (ys.map (·.length)).sum + ys.length * a.length ≤ 100000) : Rm K "str" (rJoin K) (.v (.str a)) [.n (vss ys)] (.v (.str (Txt.join a ys))) := by
  refine ⟨fun x H1 e => ?_, ?_⟩
  · rw [show x = V.str a from e]; exact rfl
  · rintro _ _ H1 rfl (_ | ⟨⟨p, rfl, hp⟩, _ | _⟩) Q q
    exact ⟨a, p, ys, rfl, rfl, .inl (sq_of hp), by omega, q _ H1 (Ex.refl H1) rfl⟩
theorem rm_sindex {a b : Str} {i : Nat} {rest : List Nat} (h : Builtin.Str.occurrences a b 0 a.length 1 = i :: rest) : Rm K "str" rSIndex (.v (.str a)) [.v (.str b)] (.v (.int (i : Int))) := by
  refine ⟨fun x H1 e => ?_, ?_⟩
  · rw [show x = V.str a from e]; exact rfl
  · rintro _ _ H1 rfl (_ | ⟨rfl, _ | _⟩) Q q
    exact ⟨a, b, i, rest, rfl, rfl, h, q _ H1 (Ex.refl H1) rfl⟩
theorem rm_count {ys : List Str} {z : Str} : Rm K "list" (rCntS K) (.l (vss ys)) [.v (.str z)] (.v (.int (ys.count z : Nat))) := by
  refine ⟨fun x H1 e => ?_, ?_⟩
  · obtain ⟨p, rfl, hp⟩ := e
    exact .inl ⟨rfl, _, hp⟩
  · rintro _ _ H1 ⟨p, rfl, hp⟩ (_ | ⟨rfl, _ | _⟩) Q q
    exact ⟨p, ys, z, rfl, rfl, hp, q _ H1 (Ex.refl H1) rfl⟩
theorem er_repG {a y z : Str} (h : Er K te σ H (.v (.str a))) (hz : a.length ≤ 1000) (hz2 : z.length ≤ 1000) : Er K (tRepG te y z) σ H (.v (.str (Txt.replace a y z))) := fun H1 e Q q =>
  h H1 e _ fun v H2 e2 z2 => ⟨a, z2, by
    have : (a.length + 1) * z.length ≤ 1001 * 1000 := Nat.mul_le_mul (by omega) hz2
    omega, q _ H2 e2 rfl⟩

/-! ### slices -/
def Eo (to : TO) (σ : L2.St) (H : Hp) (o : Option Int) : Prop := EvO to σ H o
theorem eo_non : EvO tNoPart σ H none := eo_none
theorem eo_of {i : Int} (h : Er K te σ H (.v (.int i))) : EvO (tPart te) σ H (some i) := fun H1 e _ q => h H1 e _ fun v H2 e2 z => ⟨i, z, q H2 e2⟩
theorem er_slL {tl th : TO} {xs : List V} {lo hi : Option Int} (h : Er K te σ H (.l xs)) (h1 : EvO tl σ H lo) (h2 : EvO th σ H hi) : Er K (tSl (rSlL K) te tl th) σ H (.n (cutV xs lo hi)) := fun H1 e _ q =>
  h H1 e _ fun v H2 e2 ⟨p, ep, hp⟩ => h1 H2 (e.trans e2) _ fun H3 e3 => h2 H3 ((e.trans e2).trans e3) _ fun H4 e4 => by
    subst ep
    exact ⟨p, xs, rfl, ex_l (e3.trans e4) hp, fun l hl => q _ _ (((e2.trans e3).trans e4).trans (Ex.new hl)) ⟨l, rfl, upd_same⟩⟩
theorem er_slS {tl th : TO} {z : Str} {lo hi : Option Int} (h : Er K te σ H (.v (.str z))) (hz : z.length ≤ 100000) (h1 : EvO tl σ H lo) (h2 : EvO th σ H hi) : Er K (tSl rSlS te tl th) σ H (.v (.str (cutS z lo hi))) := fun H1 e _ q =>
  h H1 e _ fun v H2 e2 ev => h1 H2 (e.trans e2) _ fun H3 e3 => h2 H3 ((e.trans e2).trans e3) _ fun H4 e4 => ⟨z, ev, sz_of hz, q _ H4 ((e2.trans e3).trans e4) rfl⟩

/-! ### tests, choices -/
theorem et_t {b : Bool} (h : Er K te σ H (.v (.bl b))) : EvT (tTest te) σ H b := fun H1 e _ q => h H1 e _ fun v H2 e2 z => ⟨b, z, q H2 e2⟩
theorem et_v {b : Bool} (h : Er K te σ H (.v (.bl b))) : EvT (tB te) σ H b := fun H1 e _ q => h H1 e _ fun v H2 e2 z => ⟨b, z, q H2 e2⟩
theorem er_if {b : Bool} (h : EvT t σ H b) (h1 : b = true → Er K ta σ H d) (h2 : b = false → Er K tb σ H d) : Er K (tIf t ta tb) σ H d := fun H1 e Q q => h H1 e _ fun H2 e2 => by
  cases b with
  | true =>
    show ta σ H2 Q
    exact h1 rfl H2 (e.trans e2) Q fun v H3 e3 z => q v H3 (e2.trans e3) z
  | false =>
    show tb σ H2 Q
    exact h2 rfl H2 (e.trans e2) Q fun v H3 e3 z => q v H3 (e2.trans e3) z
theorem er_andV {a b : Bool} (h1 : Er K ta σ H (.v (.bl a))) (h2 : a = true → Er K tb σ H (.v (.bl b))) : Er K (tAndV ta tb) σ H (.v (.bl (a && b))) := fun H1 e Q q => h1 H1 e _ fun v H2 e2 z => ⟨a, z, by
  cases a with
  | true =>
    show tb σ H2 Q
    exact h2 rfl H2 (e.trans e2) Q fun v H3 e3 z => q v H3 (e2.trans e3) z
  | false =>
    show Q (.bl false) H2
    exact q _ H2 e2 rfl⟩
theorem er_orV {a b : Bool} (h1 : Er K ta σ H (.v (.bl a))) (h2 : a = false → Er K tb σ H (.v (.bl b))) : Er K (tOrV ta tb) σ H (.v (.bl (a || b))) := fun H1 e Q q => h1 H1 e _ fun v H2 e2 z => ⟨a, z, by
  cases a with
  | true =>
    show Q (.bl true) H2
    exact q _ H2 e2 rfl
  | false =>
    show tb σ H2 Q
    exact h2 rfl H2 (e.trans e2) Q fun v H3 e3 z => q v H3 (e2.trans e3) z⟩
theorem er_notV {a : Bool} (h1 : Er K ta σ H (.v (.bl a))) : Er K (tNotV ta) σ H (.v (.bl (!a))) := fun H1 e Q q => h1 H1 e _ fun v H2 e2 z => ⟨a, z, q _ H2 e2 rfl⟩

/-! ### calls of the text's own defs -/
def spR (K : PySem.W.Frag) {A : Type} (pre : A → Prop) (args : A → List Dd) (ret : A → Dd) : Sp := fun vs H Q _ => ∃ a : A, pre a ∧ IsAll K H (args a) vs ∧ ∀ v H', Ex H H' → Is K H' (ret a) v → Q v H'
theorem er_call {A : Type} {pre : A → Prop} {args : A → List Dd} {ret : A → Dd} {E : XK} {ds : List Dd} (a : A) (h : Era K tr σ H ds) (hd : ds = args a) (hp : pre a) : Er K (tCall (spR K pre args ret) [] E tr) σ H (ret a) := fun H1 e Q q =>
  h H1 e _ fun vs H2 e2 z => by
    rw [List.append_nil]
    exact ⟨a, hp, hd ▸ z, fun v H' e3 z3 => q v H' (e2.trans e3) z3⟩
theorem er_call2 {A : Type} {pre : A → Prop} {args : A → List Dd} {ret : A → Dd} (a : A) (h1 : Er K ta σ H d1) (h2 : Er K tb σ H d2) (hd : [d2, d1] = args a) (hp : pre a) : Er K (tCall2 (spR K pre args ret) ta tb) σ H (ret a) := fun H1 e Q q =>
  h1 H1 e _ fun v1 H2 e2 z1 => h2 H2 (e.trans e2) _ fun v2 H3 e3 z2 => ⟨v1, v2, rfl, a, hp, hd ▸ .cons z2 (.cons (z1.mono e3) .nil), fun v H' e4 z => q v H' ((e2.trans e3).trans e4) z⟩
theorem er_call1 {A : Type} {pre : A → Prop} {args : A → List Dd} {ret : A → Dd} (a : A) (h1 : Er K ta σ H d1) (hd : [d1] = args a) (hp : pre a) : Er K (tCall1 (spR K pre args ret) ta) σ H (ret a) := fun H1 e Q q =>
  h1 H1 e _ fun v1 H2 e2 z1 => ⟨v1, rfl, a, hp, hd ▸ .cons z1 .nil, fun v H' e4 z => q v H' (e2.trans e4) z⟩

/-! ### statements -/
variable {D : Ends} {tu tw tz : TS} {g : TG}
theorem a_asg {i : Nat} (h : Er K te σ H d) (k : ∀ v H1, Ex H H1 → Is K H1 d v → tz D (σ.set i (some v)) H1) : tSeq (tAsg te (gName i)) tz D σ H := h H (Ex.refl H) _ fun v H1 e z => k v H1 e z
theorem a_asg1 {i : Nat} (h : Er K te σ H d) (k : ∀ v H1, Ex H H1 → Is K H1 d v → D.nx (σ.set i (some v)) H1) : tAsg te (gName i) D σ H := h H (Ex.refl H) _ fun v H1 e z => k v H1 e z
theorem a_ret (h : Er K te σ H d) (k : ∀ v H1, Ex H H1 → Is K H1 d v → D.rt v H1) : tRet te D σ H := h H (Ex.refl H) _ k
/-- a new list that will grow -/
theorem a_new {i : Nat} (k : ∀ p H1, H p = none → Ex H H1 → H1 p = some (.lst []) → tz D (σ.set i (some (.ref p))) H1) : tSeq (tAsg (tLst tNil) (gName i)) tz D σ H :=
  ⟨Nat.zero_le _, fun p hp => k p _ hp (Ex.new hp) upd_same⟩
theorem a_app {l : Addr} {xs : List V} (hl : H l = some (.lst xs)) (ha : Er K ta σ H (.v (.ref l))) (h : Er K te σ H (.v x)) (hz : xs.length < 100000) (k : ∀ H1, Ex H H1 → D.nx σ (upd H1 l (.lst (xs ++ [x])))) :
    tDrop (tBM K "list" rAppend ta (tCons te tNil)) D σ H := ha H (Ex.refl H) _ fun v H1 e1 z1 => by
  have ez : v = .ref l := z1
  subst ez
  exact ⟨Or.inl ⟨rfl, xs, sq_of (e1 l _ hl)⟩, h H1 e1 _ fun v H2 e2 z2 => by
    have e3 : v = x := z2
    subst e3
    exact ⟨l, xs, v, rfl, rfl, e2 l _ (e1 l _ hl), sz_lt hz, k H2 (e1.trans e2)⟩⟩
theorem b_app {l : Addr} {xs : List V} (hl : H l = some (.lst xs)) (ha : Er K ta σ H (.v (.ref l))) (h : Er K te σ H (.v x)) (hz : xs.length < 100000) (k : ∀ H1, Ex H H1 → tz D σ (upd H1 l (.lst (xs ++ [x])))) :
    tSeq (tDrop (tBM K "list" rAppend ta (tCons te tNil))) tz D σ H := a_app (D := { D with nx := tz D }) hl ha h hz k
theorem a_forR1 {ta : TA} {j : Nat} {n : Nat} (h : Era K ta σ H [.v (.int (n : Int))]) (hn : n ≤ 100000) (Pv : Nat → L2.St → Hp → Prop) (h0 : ∀ H1, Ex H H1 → Pv 0 σ H1)
    (hs : ∀ (i : Nat) σ' H', i < n → Pv i σ' H' → tu { D with nx := Pv (i + 1), ct := Pv (i + 1), bk := D.nx } (σ'.set j (some (.int (i : Int)))) H') (hd : ∀ σ' H', Pv n σ' H' → D.nx σ' H') : tFor (iRng1 ta) (gName j) tu D σ H :=
  h H (Ex.refl H) _ fun vs H1 e z => by
    rcases z with _ | ⟨rfl, _ | _⟩
    exact ⟨(n : Int), rfl, by omega, by omega, for_range (lo := 0) (n := (n : Int).toNat) Pv (h0 H1 e) (fun i σ' H' hi p => by
      have e0 : (0 : Int) + (i : Int) = (i : Int) := Int.zero_add _
      show tu { D with nx := Pv (i + 1), ct := Pv (i + 1), bk := D.nx } (σ'.set j (some (.int ((0 : Int) + (i : Int))))) H'
      rw [e0]
      exact hs i σ' H' (by omega) p) (by rw [Int.toNat_natCast]; exact hd)⟩
theorem b_forR1 {ta : TA} {j : Nat} {n : Nat} (h : Era K ta σ H [.v (.int (n : Int))]) (hn : n ≤ 100000) (Pv : Nat → L2.St → Hp → Prop) (h0 : ∀ H1, Ex H H1 → Pv 0 σ H1)
    (hs : ∀ (i : Nat) σ' H', i < n → Pv i σ' H' → tu { D with nx := Pv (i + 1), ct := Pv (i + 1), bk := tz D } (σ'.set j (some (.int (i : Int)))) H') (hd : ∀ σ' H', Pv n σ' H' → tz D σ' H') : tSeq (tFor (iRng1 ta) (gName j) tu) tz D σ H :=
  a_forR1 (D := { D with nx := tz D }) h hn Pv h0 hs hd
/-- a loop over a list that stands at a: its place among the slots is known -/
theorem a_forA {a : Addr} {xs : List V} {tl : TE} {j : Nat} (h : Er K tl σ H (.v (.ref a))) (hx : SqL K H a xs) (Pv : Nat → L2.St → Hp → Prop) (h0 : ∀ H1, Ex H H1 → Pv 0 σ H1) (hl : ∀ i σ' H', i ≤ xs.length → Pv i σ' H' → SqL K H' a xs)
    (hs : ∀ i x σ' H', xs[i]? = some x → Pv i σ' H' → tu { D with nx := Pv (i + 1), ct := Pv (i + 1), bk := D.nx } (σ'.set j (some x)) H') (hd : ∀ σ' H', Pv xs.length σ' H' → D.nx σ' H') : tFor (iList K tl) (gName j) tu D σ H :=
  h H (Ex.refl H) _ fun v H1 e z => by
    have ez : v = .ref a := z
    subst ez
    exact ⟨a, rfl, ⟨xs, ex_l e hx⟩, for_list Pv (h0 H1 e) hl hs hd⟩
theorem b_forA {a : Addr} {xs : List V} {tl : TE} {j : Nat} (h : Er K tl σ H (.v (.ref a))) (hx : SqL K H a xs) (Pv : Nat → L2.St → Hp → Prop) (h0 : ∀ H1, Ex H H1 → Pv 0 σ H1) (hl : ∀ i σ' H', i ≤ xs.length → Pv i σ' H' → SqL K H' a xs)
    (hs : ∀ i x σ' H', xs[i]? = some x → Pv i σ' H' → tu { D with nx := Pv (i + 1), ct := Pv (i + 1), bk := tz D } (σ'.set j (some x)) H') (hd : ∀ σ' H', Pv xs.length σ' H' → tz D σ' H') : tSeq (tFor (iList K tl) (gName j) tu) tz D σ H :=
  a_forA (D := { D with nx := tz D }) h hx Pv h0 hl hs hd
/-- a loop over a list wherever it stands; nothing that stood ahead of the loop is changed -/
theorem a_forL {xs : List V} {tl : TE} {j : Nat} (h : Er K tl σ H (.l xs)) (Pv : Hp → Nat → L2.St → Hp → Prop) (h0 : ∀ H1, Ex H H1 → Pv H1 0 σ H1) (hl : ∀ H1 i σ' H', Pv H1 i σ' H' → Ex H1 H')
    (hs : ∀ H1 i x σ' H', Ex H H1 → xs[i]? = some x → Pv H1 i σ' H' → tu { D with nx := Pv H1 (i + 1), ct := Pv H1 (i + 1), bk := D.nx } (σ'.set j (some x)) H') (hd : ∀ H1 σ' H', Ex H H1 → Pv H1 xs.length σ' H' → D.nx σ' H') : tFor (iList K tl) (gName j) tu D σ H :=
  h H (Ex.refl H) _ fun v H1 e ⟨p, ep, hp⟩ => by
    subst ep
    exact ⟨p, rfl, ⟨xs, hp⟩, for_list (Pv H1) (h0 H1 e) (fun i σ' H' _ q => ex_l (hl H1 i σ' H' q) hp) (fun i x σ' H' hx q => hs H1 i x σ' H' e hx q) (fun σ' H' q => hd H1 σ' H' e q)⟩
theorem b_forL {xs : List V} {tl : TE} {j : Nat} (h : Er K tl σ H (.l xs)) (Pv : Hp → Nat → L2.St → Hp → Prop) (h0 : ∀ H1, Ex H H1 → Pv H1 0 σ H1) (hl : ∀ H1 i σ' H', Pv H1 i σ' H' → Ex H1 H')
    (hs : ∀ H1 i x σ' H', Ex H H1 → xs[i]? = some x → Pv H1 i σ' H' → tu { D with nx := Pv H1 (i + 1), ct := Pv H1 (i + 1), bk := tz D } (σ'.set j (some x)) H') (hd : ∀ H1 σ' H', Ex H H1 → Pv H1 xs.length σ' H' → tz D σ' H') : tSeq (tFor (iList K tl) (gName j) tu) tz D σ H :=
  a_forL (D := { D with nx := tz D }) h Pv h0 hl hs hd

/-! ### loops over pairs in new tuples -/
theorem for_P {ps : List (V × V)} {g : TG} {tb : TS} {D : Ends} {σ : L2.St} {H : Hp} (Pv : Nat → L2.St → Hp → Prop) (h0 : Pv 0 σ H)
    (hs : ∀ (i : Nat) (x y : V) (T : Addr) σ H, ps[i]? = some (x, y) → Pv i σ H → H T = none → g (.ref T) σ (upd H T (.tup [x, y])) fun σ2 H2 => tb { D with nx := Pv (i + 1), ct := Pv (i + 1), bk := D.nx } σ2 H2) (hd : ∀ σ H, Pv ps.length σ H → D.nx σ H) :
    ∃ W : Nat → Nat → L2.St → Hp → Prop, (∃ m, W 0 m σ H) ∧ ∀ i m σ H, W i m σ H →
      ((ItP ps).stop i H ∧ D.nx σ H) ∨ ((ItP ps).go i H ∧ ∃ N : L2.St → Hp → Prop, (∀ σ' H', N σ' H' → ∃ m', m' < m ∧ W (i + 1) m' σ' H') ∧ ∀ v H', (ItP ps).yld i H v H' → g v σ H' fun σ2 H2 => tb { D with nx := N, ct := N, bk := D.nx } σ2 H2) := by
  refine ⟨fun i m σ H => m = ps.length - i ∧ i ≤ ps.length ∧ Pv i σ H, ⟨ps.length, by simp, Nat.zero_le _, h0⟩, ?_⟩
  rintro i m σ H ⟨rfl, hi, p⟩
  by_cases hlt : i < ps.length
  · refine .inr ⟨hlt, Pv (i + 1), fun σ' H' p' => ⟨ps.length - (i + 1), by omega, rfl, hlt, p'⟩, fun v H' y => ?_⟩
    obtain ⟨T, x, y, rfl, hT, rfl, hxy⟩ := y
    exact hs i x y T σ H hxy p hT
  · have e : i = ps.length := by omega
    subst e
    exact .inl ⟨rfl, hd σ H p⟩
/-- for a, b in zip(one, two), two texts, the names in slots j1, j2 -/
theorem a_forZ {ta : TA} {j1 j2 : Nat} {one two : Str} (h : Era K ta σ H [.v (.str one), .v (.str two)]) (Pv : Nat → L2.St → Hp → Prop) (h0 : ∀ H1, Ex H H1 → Pv 0 σ H1)
    (hs : ∀ i c1 c2 σ' H' H2, one.cps[i]? = some c1 → two.cps[i]? = some c2 → Pv i σ' H' → Ex H' H2 → tu { D with nx := Pv (i + 1), ct := Pv (i + 1), bk := D.nx } ((σ'.set j1 (some (sgn c1))).set j2 (some (sgn c2))) H2)
    (hd : ∀ σ' H', Pv (min one.length two.length) σ' H' → D.nx σ' H') : tFor (iZipS ta) (gTup K 2 (gCons (gName j1) (gCons (gName j2) gNil))) tu D σ H :=
  h H (Ex.refl H) _ fun vs H1 e z => by
    rcases z with _ | ⟨rfl, _ | ⟨rfl, _ | _⟩⟩
    refine ⟨one, two, rfl, for_P Pv (h0 H1 e) (fun i x y T σ' H' hxy p hT => ?_) (fun σ' H' p => hd σ' H' (by rw [zipS_len] at p; exact p))⟩
    obtain ⟨c1, c2, h1, h2, e1, e2⟩ := zipS_at hxy
    subst e1
    subst e2
    exact ⟨T, [_, _], rfl, st_of upd_same, rfl, _, [_], rfl, _, [], rfl, rfl, hs i c1 c2 σ' H' _ h1 h2 p (Ex.new hT)⟩
theorem b_forZ {ta : TA} {j1 j2 : Nat} {one two : Str} (h : Era K ta σ H [.v (.str one), .v (.str two)]) (Pv : Nat → L2.St → Hp → Prop) (h0 : ∀ H1, Ex H H1 → Pv 0 σ H1)
    (hs : ∀ i c1 c2 σ' H' H2, one.cps[i]? = some c1 → two.cps[i]? = some c2 → Pv i σ' H' → Ex H' H2 → tu { D with nx := Pv (i + 1), ct := Pv (i + 1), bk := tz D } ((σ'.set j1 (some (sgn c1))).set j2 (some (sgn c2))) H2)
    (hd : ∀ σ' H', Pv (min one.length two.length) σ' H' → tz D σ' H') : tSeq (tFor (iZipS ta) (gTup K 2 (gCons (gName j1) (gCons (gName j2) gNil))) tu) tz D σ H :=
  a_forZ (D := { D with nx := tz D }) h Pv h0 hs hd
theorem q_tCut {M : L2.St → Hp → Prop} (h : tu { D with nx := M } σ H) (k : ∀ σ' H', M σ' H' → tz D σ' H') : tCut tu tz D σ H := ⟨M, h, k⟩
end

/-! ### list comprehensions whose items are flat -/
section
variable {K : PySem.W.Frag} {σ : L2.St} {H H' : Hp} {te tl : TE} {t : TT} {ta : TA}
/-- what has been made behind i turns -/
def acc {α : Type} (its : List α) (f : α → Bool) (g : α → V) (i : Nat) : List V := ((its.take i).filter f).map g
theorem acc_next {α : Type} {its : List α} {f : α → Bool} {g : α → V} {i : Nat} {x : α} (h : its[i]? = some x) : acc its f g (i + 1) = acc its f g i ++ if f x = true then [g x] else [] := by
  unfold acc
  rw [List.take_add_one, h]
  simp only [Option.toList, List.filter_append, List.map_append]
  congr 1
  by_cases hf : f x = true
  · simp [hf]
  · simp [hf]
theorem acc_all {α : Type} {its : List α} {f : α → Bool} {g : α → V} : acc its f g its.length = (its.filter f).map g := by
  unfold acc
  rw [List.take_length]
theorem acc_len {α : Type} (its : List α) (f : α → Bool) (g : α → V) (i : Nat) : (acc its f g i).length ≤ i := by
  unfold acc
  rw [List.length_map]
  refine Nat.le_trans (List.length_filter_le _ _) ?_
  rw [List.length_take]
  exact Nat.min_le_left _ _
def Cv {α : Type} (H : Hp) (its : List α) (f : α → Bool) (g : α → V) (Dl : Addr) (i : Nat) (H' : Hp) : Prop := H Dl = none ∧ Ex H H' ∧ H' Dl = some (.lst (acc its f g i))
theorem cv_turn {α : Type} {its : List α} {H H' H'' : Hp} {f : α → Bool} {g : α → V} {Dl : Addr} {i : Nat} {x : α} {σ2 : L2.St} (p : Cv H its f g Dl i H') (hx : its[i]? = some x) (hi : its.length ≤ 50000) (he2 : Ex H' H'') (ht : EvT t σ2 H (f x)) (he : f x = true → Er K te σ2 H (.v (g x))) :
    t σ2 H'' fun b H3 => if b = true then te σ2 H3 fun y H4 => ∃ acc, H4 Dl = some (.lst acc) ∧ acc.length < sizeLine ∧ Cv H its f g Dl (i + 1) (upd H4 Dl (.lst (acc ++ [y]))) else Cv H its f g Dl (i + 1) H3 := by
  obtain ⟨p1, p2, p3⟩ := p
  have hlt := (List.getElem?_eq_some_iff.mp hx).1
  refine ht H'' (p2.trans he2) _ fun H3 e3 => ?_
  have p4 := e3 Dl _ (he2 Dl _ p3)
  cases hf : f x with
  | true =>
    show te σ2 H3 fun y H4 => ∃ a, H4 Dl = some (.lst a) ∧ a.length < sizeLine ∧ Cv H its f g Dl (i + 1) (upd H4 Dl (.lst (a ++ [y])))
    refine he hf H3 ((p2.trans he2).trans e3) _ fun y H4 e4 z => ?_
    have ez : y = g x := z
    subst ez
    refine ⟨acc its f g i, e4 Dl _ p4, sz_lt (by have := acc_len its f g i; omega), p1, Ex.mut (((p2.trans he2).trans e3).trans e4) p1, ?_⟩
    rw [acc_next hx, if_pos hf]
    exact upd_same
  | false =>
    show Cv H its f g Dl (i + 1) H3
    refine ⟨p1, (p2.trans he2).trans e3, ?_⟩
    rw [acc_next hx, if_neg (by rw [hf]; exact Bool.false_ne_true), List.append_nil]
    exact p4
/-- [e for x in range(n) if t] -/
theorem er_lcR {n j : Nat} {vs : List Nat} (f : Nat → Bool) (g : Nat → V) (h : Era K ta σ H [.v (.int (n : Int))]) (hn : n ≤ 40000) (hw : ∀ x, wipe ((wipe σ vs).set j (some x)) vs = wipe σ vs)
    (ht : ∀ i H1, Ex H H1 → i < n → EvT t ((wipe σ vs).set j (some (.int (i : Int)))) H1 (f i)) (he : ∀ i H1, Ex H H1 → i < n → f i = true → Er K te ((wipe σ vs).set j (some (.int (i : Int)))) H1 (.v (g i))) :
    Er K (tLc (iRng1 ta) (gName j) t te vs) σ H (.n (((List.range n).filter f).map g)) := fun H0 e Q q => h H0 e _ fun ws H1 e1 z => by
  rcases z with _ | ⟨rfl, _ | _⟩
  refine ⟨(n : Int), rfl, by omega, by omega, fun Dl hD => ?_⟩
  rw [Int.toNat_natCast]
  refine lc_range (lo := 0) (n := n) (Cv H1 (List.range n) f g Dl) ⟨hD, Ex.new hD, upd_same⟩ (fun i H' hi p => ?_) fun H' p => ?_
  · have e0 : (0 : Int) + (i : Int) = (i : Int) := Int.zero_add _
    show wipe ((wipe σ vs).set j (some (.int ((0 : Int) + (i : Int))))) vs = wipe σ vs ∧ t ((wipe σ vs).set j (some (.int ((0 : Int) + (i : Int))))) H' fun b H3 => if b = true then te ((wipe σ vs).set j (some (.int ((0 : Int) + (i : Int))))) H3 fun y H4 => ∃ acc, H4 Dl = some (.lst acc) ∧ acc.length < sizeLine ∧ Cv H1 (List.range n) f g Dl (i + 1) (upd H4 Dl (.lst (acc ++ [y]))) else Cv H1 (List.range n) f g Dl (i + 1) H3
    rw [e0]
    exact ⟨hw _, cv_turn p (x := i) (by rw [List.getElem?_range hi]) (by rw [List.length_range]; omega) (Ex.refl _) (ht i H1 (e.trans e1) hi) (fun hf => he i H1 (e.trans e1) hi hf)⟩
  · obtain ⟨p1, p2, p3⟩ := p
    refine q _ H' (e1.trans p2) ⟨Dl, rfl, ?_⟩
    rw [p3]
    have := acc_all (its := List.range n) (f := f) (g := g)
    rw [List.length_range] at this
    rw [this]
/-- .. over a list -/
theorem er_lcL {α : Type} {its : List α} {inj : α → V} {j : Nat} {vs : List Nat} (f : α → Bool) (g : α → V) (h : Er K tl σ H (.l (its.map inj))) (hz : its.length ≤ 40000) (hw : ∀ x, wipe ((wipe σ vs).set j (some x)) vs = wipe σ vs)
    (ht : ∀ (i : Nat) x H1, Ex H H1 → its[i]? = some x → EvT t ((wipe σ vs).set j (some (inj x))) H1 (f x)) (he : ∀ (i : Nat) x H1, Ex H H1 → its[i]? = some x → f x = true → Er K te ((wipe σ vs).set j (some (inj x))) H1 (.v (g x))) :
    Er K (tLc (iList K tl) (gName j) t te vs) σ H (.n ((its.filter f).map g)) := fun H0 e Q q => h H0 e _ fun w H1 e1 ⟨a, ea, ha⟩ => by
  subst ea
  refine ⟨a, rfl, ⟨_, ha⟩, fun Dl hD => ?_⟩
  refine lc_list (xs := its.map inj) (Cv H1 its f g Dl) ⟨hD, Ex.new hD, upd_same⟩ (fun i H' _ p => ex_l p.2.1 ha) (fun i y H' hy p => ?_) fun H' p => ?_
  · rw [List.getElem?_map] at hy
    cases hx : its[i]? with
    | none => rw [hx] at hy; cases hy
    | some x =>
      rw [hx] at hy
      have ey : inj x = y := Option.some.inj hy
      subst ey
      exact ⟨hw _, cv_turn p hx (by omega) (Ex.refl _) (ht i x H1 (e.trans e1) hx) (fun hf => he i x H1 (e.trans e1) hx hf)⟩
  · obtain ⟨p1, p2, p3⟩ := p
    refine q _ H' (e1.trans p2) ⟨Dl, rfl, ?_⟩
    rw [p3, List.length_map, acc_all]

theorem lc_P {ps : List (V × V)} {g : TG} {tt : TT} {te : TE} {vs : List Nat} {σ : L2.St} {H1 : Hp} {D : Addr} {Qd : Hp → Prop} (Pv : Nat → Hp → Prop) (h0 : Pv 0 (upd H1 D (.lst [])))
    (hs : ∀ (i : Nat) x y (T : Addr) H, ps[i]? = some (x, y) → Pv i H → H T = none → g (.ref T) (wipe σ vs) (upd H T (.tup [x, y])) fun σ2 H2 => wipe σ2 vs = wipe σ vs ∧ tt σ2 H2 fun b H3 =>
      if b = true then te σ2 H3 fun y H4 => ∃ acc, H4 D = some (.lst acc) ∧ acc.length < sizeLine ∧ Pv (i + 1) (upd H4 D (.lst (acc ++ [y]))) else Pv (i + 1) H3) (hd : ∀ H, Pv ps.length H → Qd H) :
    ∃ W : Nat → Nat → Hp → Prop, (∃ m, W 0 m (upd H1 D (.lst []))) ∧ ∀ i m H, W i m H →
      ((ItP ps).stop i H ∧ Qd H) ∨ ((ItP ps).go i H ∧ ∃ Nx : Hp → Prop, (∀ H', Nx H' → ∃ m', m' < m ∧ W (i + 1) m' H') ∧ ∀ x H', (ItP ps).yld i H x H' → g x (wipe σ vs) H' fun σ2 H2 => wipe σ2 vs = wipe σ vs ∧ tt σ2 H2 fun b H3 =>
        if b = true then te σ2 H3 fun y H4 => ∃ acc, H4 D = some (.lst acc) ∧ acc.length < sizeLine ∧ Nx (upd H4 D (.lst (acc ++ [y]))) else Nx H3) := by
  refine ⟨fun i m H => m = ps.length - i ∧ i ≤ ps.length ∧ Pv i H, ⟨ps.length, by simp, Nat.zero_le _, h0⟩, ?_⟩
  rintro i m H ⟨rfl, hi, p⟩
  by_cases hlt : i < ps.length
  · refine .inr ⟨hlt, Pv (i + 1), fun H' p' => ⟨ps.length - (i + 1), by omega, rfl, hlt, p'⟩, fun v H' y => ?_⟩
    obtain ⟨T, x, y, rfl, hT, rfl, hxy⟩ := y
    exact hs i x y T H hxy p hT
  · have e : i = ps.length := by omega
    subst e
    exact .inl ⟨rfl, hd H p⟩
theorem lc_S {z : Str} {g : TG} {tt : TT} {te : TE} {vs : List Nat} {σ : L2.St} {H1 : Hp} {D : Addr} {Qd : Hp → Prop} (Pv : Nat → Hp → Prop) (h0 : Pv 0 (upd H1 D (.lst [])))
    (hs : ∀ (i : Nat) c H, z.cps.toList[i]? = some c → Pv i H → g (sgn c) (wipe σ vs) H fun σ2 H2 => wipe σ2 vs = wipe σ vs ∧ tt σ2 H2 fun b H3 =>
      if b = true then te σ2 H3 fun y H4 => ∃ acc, H4 D = some (.lst acc) ∧ acc.length < sizeLine ∧ Pv (i + 1) (upd H4 D (.lst (acc ++ [y]))) else Pv (i + 1) H3) (hd : ∀ H, Pv z.cps.size H → Qd H) :
    ∃ W : Nat → Nat → Hp → Prop, (∃ m, W 0 m (upd H1 D (.lst []))) ∧ ∀ i m H, W i m H →
      ((Its z).stop i H ∧ Qd H) ∨ ((Its z).go i H ∧ ∃ Nx : Hp → Prop, (∀ H', Nx H' → ∃ m', m' < m ∧ W (i + 1) m' H') ∧ ∀ x H', (Its z).yld i H x H' → g x (wipe σ vs) H' fun σ2 H2 => wipe σ2 vs = wipe σ vs ∧ tt σ2 H2 fun b H3 =>
        if b = true then te σ2 H3 fun y H4 => ∃ acc, H4 D = some (.lst acc) ∧ acc.length < sizeLine ∧ Nx (upd H4 D (.lst (acc ++ [y]))) else Nx H3) := by
  refine ⟨fun i m H => m = z.cps.size - i ∧ i ≤ z.cps.size ∧ Pv i H, ⟨z.cps.size, by simp, Nat.zero_le _, h0⟩, ?_⟩
  rintro i m H ⟨rfl, hi, p⟩
  by_cases hlt : i < z.cps.size
  · refine .inr ⟨hlt, Pv (i + 1), fun H' p' => ⟨z.cps.size - (i + 1), by omega, rfl, hlt, p'⟩, fun v H' y => ?_⟩
    obtain ⟨rfl, c, hc, rfl⟩ := y
    exact hs i c _ (by simpa using hc) p
  · have e : i = z.cps.size := by omega
    subst e
    exact .inl ⟨Nat.le_refl _, hd H p⟩
/-- [e for c in text if t] -/
theorem er_lcS {z : Str} {j : Nat} {vs : List Nat} (f : Nat → Bool) (g : Nat → V) (h : Er K tl σ H (.v (.str z))) (hz : z.length ≤ 40000) (hw : ∀ x, wipe ((wipe σ vs).set j (some x)) vs = wipe σ vs)
    (ht : ∀ (i : Nat) c H1, Ex H H1 → z.cps.toList[i]? = some c → EvT t ((wipe σ vs).set j (some (sgn c))) H1 (f c)) (he : ∀ (i : Nat) c H1, Ex H H1 → z.cps.toList[i]? = some c → f c = true → Er K te ((wipe σ vs).set j (some (sgn c))) H1 (.v (g c))) :
    Er K (tLc (iStr tl) (gName j) t te vs) σ H (.n ((z.cps.toList.filter f).map g)) := fun H0 e Q q => h H0 e _ fun w H1 e1 ew => by
  refine ⟨z, ew, fun Dl hD => ?_⟩
  refine lc_S (z := z) (Cv H1 z.cps.toList f g Dl) ⟨hD, Ex.new hD, upd_same⟩ (fun i c H' hc p => ?_) fun H' p => ?_
  · exact ⟨hw _, cv_turn p hc (by show z.cps.toList.length ≤ 50000; have : z.cps.toList.length = z.length := by simp [Str.length]
                                  omega) (Ex.refl _) (ht i c H1 (e.trans e1) hc) (fun hf => he i c H1 (e.trans e1) hc hf)⟩
  · obtain ⟨p1, p2, p3⟩ := p
    refine q _ H' (e1.trans p2) ⟨Dl, rfl, ?_⟩
    rw [p3, ← acc_all]
    simp
/-- [e for a, b in zip(one, two) if t], the names in slots j1, j2 -/
theorem er_lcZ {one two : Str} {j1 j2 : Nat} {vs : List Nat} (f : Nat × Nat → Bool) (g : Nat × Nat → V) (h : Era K ta σ H [.v (.str one), .v (.str two)]) (hz : one.length ≤ 40000) (hw : ∀ x y, wipe (((wipe σ vs).set j1 (some x)).set j2 (some y)) vs = wipe σ vs)
    (ht : ∀ (i : Nat) c1 c2 H1, Ex H H1 → one.cps[i]? = some c1 → two.cps[i]? = some c2 → EvT t (((wipe σ vs).set j1 (some (sgn c1))).set j2 (some (sgn c2))) H1 (f (c1, c2)))
    (he : ∀ (i : Nat) c1 c2 H1, Ex H H1 → one.cps[i]? = some c1 → two.cps[i]? = some c2 → f (c1, c2) = true → Er K te (((wipe σ vs).set j1 (some (sgn c1))).set j2 (some (sgn c2))) H1 (.v (g (c1, c2)))) :
    Er K (tLc (iZipS ta) (gTup K 2 (gCons (gName j1) (gCons (gName j2) gNil))) t te vs) σ H (.n (((one.cps.toList.zip two.cps.toList).filter f).map g)) := fun H0 e Q q => h H0 e _ fun ws H1 e1 z => by
  rcases z with _ | ⟨rfl, _ | ⟨rfl, _ | _⟩⟩
  refine ⟨one, two, rfl, fun Dl hD => ?_⟩
  refine lc_P (ps := zipS one two) (Cv H1 (one.cps.toList.zip two.cps.toList) f g Dl) ⟨hD, Ex.new hD, upd_same⟩ (fun i x y T H' hxy p hT => ?_) fun H' p => ?_
  · obtain ⟨c1, c2, h1, h2, e1', e2'⟩ := zipS_at hxy
    subst e1'
    subst e2'
    have hp : (one.cps.toList.zip two.cps.toList)[i]? = some (c1, c2) := List.getElem?_zip_eq_some (z := (c1, c2)) |>.mpr ⟨by simpa using h1, by simpa using h2⟩
    refine ⟨T, [_, _], rfl, st_of upd_same, rfl, _, [_], rfl, _, [], rfl, rfl, hw _ _, cv_turn p hp ?_ (Ex.new hT) (ht i c1 c2 H1 (e.trans e1) h1 h2) (fun hf => he i c1 c2 H1 (e.trans e1) h1 h2 hf)⟩
    rw [List.length_zip]
    have : one.cps.toList.length = one.length := by simp [Str.length]
    omega
  · obtain ⟨p1, p2, p3⟩ := p
    refine q _ H' (e1.trans p2) ⟨Dl, rfl, ?_⟩
    rw [p3, ← acc_all, zipS_len]
    simp
theorem enumS_at {x : Str} {i : Nat} {a b : V} (h : (enumS x)[i]? = some (a, b)) : ∃ c, x.cps.toList[i]? = some c ∧ a = .int (i : Int) ∧ b = sgn c := by
  have hl : i < (enumS x).length := (List.getElem?_eq_some_iff.mp h).1
  rw [enumS_len] at hl
  have e := enumS_get (x := x) (i := i) (c := x.cps[i]) (by simp [hl])
  rw [h] at e
  have e2 := Option.some.inj e
  injection e2 with e3 e4
  exact ⟨x.cps[i], by simp [hl], e3, e4⟩
/-- [e for k, c in enumerate(text) if t], the names in slots j1, j2 -/
theorem er_lcE {z : Str} {j1 j2 : Nat} {vs : List Nat} (f : Nat × Nat → Bool) (g : Nat × Nat → V) (h : Era K ta σ H [.v (.str z)]) (hz : z.length ≤ 40000) (hw : ∀ x y, wipe (((wipe σ vs).set j1 (some x)).set j2 (some y)) vs = wipe σ vs)
    (ht : ∀ (i : Nat) c H1, Ex H H1 → z.cps.toList[i]? = some c → EvT t (((wipe σ vs).set j1 (some (.int (i : Int)))).set j2 (some (sgn c))) H1 (f (c, i)))
    (he : ∀ (i : Nat) c H1, Ex H H1 → z.cps.toList[i]? = some c → f (c, i) = true → Er K te (((wipe σ vs).set j1 (some (.int (i : Int)))).set j2 (some (sgn c))) H1 (.v (g (c, i)))) :
    Er K (tLc (iEnumS ta) (gTup K 2 (gCons (gName j1) (gCons (gName j2) gNil))) t te vs) σ H (.n ((z.cps.toList.zipIdx.filter f).map g)) := fun H0 e Q q => h H0 e _ fun ws H1 e1 zz => by
  rcases zz with _ | ⟨rfl, _ | _⟩
  refine ⟨z, rfl, fun Dl hD => ?_⟩
  refine lc_P (ps := enumS z) (Cv H1 z.cps.toList.zipIdx f g Dl) ⟨hD, Ex.new hD, upd_same⟩ (fun i x y T H' hxy p hT => ?_) fun H' p => ?_
  · obtain ⟨c, h1, e1', e2'⟩ := enumS_at hxy
    subst e1'
    subst e2'
    have hp : z.cps.toList.zipIdx[i]? = some (c, i) := by rw [List.getElem?_zipIdx, h1]; simp
    refine ⟨T, [_, _], rfl, st_of upd_same, rfl, _, [_], rfl, _, [], rfl, rfl, hw _ _, cv_turn p hp ?_ (Ex.new hT) (ht i c H1 (e.trans e1) h1) (fun hf => he i c H1 (e.trans e1) h1 hf)⟩
    rw [List.length_zipIdx]
    have : z.cps.toList.length = z.length := by simp [Str.length]
    omega
  · obtain ⟨p1, p2, p3⟩ := p
    refine q _ H' (e1.trans p2) ⟨Dl, rfl, ?_⟩
    rw [p3, ← acc_all, enumS_len]
    simp
end
end Mi

set_option maxHeartbeats 2000000
namespace Mi
open PySem PySem.Spec PyProof.Rows L2 Evl

/-! ### a text by its codes -/
def S (l : List Nat) : Str := ⟨l.toArray⟩
theorem S_list (l : List Nat) : (S l).cps.toList = l := rfl
theorem S_len (l : List Nat) : (S l).length = l.length := by simp [S, Str.length]
theorem S_size (l : List Nat) : (S l).cps.size = l.length := by simp [S]
theorem S_of (x : Str) : S x.cps.toList = x := str_ext rfl
theorem S_inj {a b : List Nat} (h : S a = S b) : a = b := by
  exact congrArg (fun x : Str => x.cps.toList) h
theorem S_eq {a b : List Nat} : (V.str (S a) = V.str (S b)) ↔ a = b := ⟨fun h => S_inj (V.str.inj h), fun h => by rw [h]⟩
theorem S_app (a b : List Nat) : S a ++ S b = S (a ++ b) := str_ext (by
  show ((S a).cps ++ (S b).cps).toList = a ++ b
  simp [S])
theorem S_one (c : Nat) : (⟨#[c]⟩ : Str) = S [c] := rfl
theorem S_reps (a : List Nat) (n : Nat) : reps (S a) n = S (List.replicate n a).flatten := rfl
theorem S_at {l : List Nat} {i : Nat} : (S l).cps[i]? = l[i]? := by simp [S]
theorem join_ones (cs : List Nat) : Txt.join (S []) (cs.map fun c => S [c]) = S cs := by
  show Builtin.Str.glued (S []) (cs.map fun c => S [c]) = S cs
  rw [StrLaws.glued_eq_join]
  induction cs with
  | nil => rfl
  | cons c r ih =>
    cases r with
    | nil => rfl
    | cons c2 r2 =>
      show S [c] ++ S [] ++ Str.join (S []) ((c2 :: r2).map fun c => S [c]) = S (c :: c2 :: r2)
      rw [ih, S_app, S_app]
      simp

section
variable {K : PySem.W.Frag} {σ : L2.St} {H H' : Hp} {te ta tb tc : TE} {t u : TT} {tr : TA} {d d1 d2 d' : Dd} {x y : V} {r : R2}
def Dd.val : Dd → V
  | .v x => x
  | _ => .non
theorem er_lst' {ds : List Dd} (h : Era K tr σ H ds) (hd : ds = (ds.map Dd.val).map Dd.v) (hl : ds.length ≤ 100000) : Er K (tLst tr) σ H (.n (ds.map Dd.val)) := by
  rw [hd] at h
  exact er_lst h (by rw [List.length_map]; exact hl)
theorem er_tup' {ds : List Dd} (h : Era K tr σ H ds) (hd : ds = (ds.map Dd.val).map Dd.v) (hl : ds.length ≤ 100000) : Er K (tTup tr) σ H (.u (ds.map Dd.val)) := by
  rw [hd] at h
  exact er_tup h (by rw [List.length_map]; exact hl)
theorem ro_mulL {i j : Int} (h1 : -18446744073709551616 < i) (h2 : i < 18446744073709551616) : Ro K (rI CMul fun i j => .int (i * j)) (.v (.int i)) (.v (.int j)) (.v (.int (i * j))) := ro_I (.inl ⟨h1, h2⟩)
theorem ro_mulR {i j : Int} (h1 : -18446744073709551616 < j) (h2 : j < 18446744073709551616) : Ro K (rI CMul fun i j => .int (i * j)) (.v (.int i)) (.v (.int j)) (.v (.int (i * j))) := ro_I (.inr ⟨h1, h2⟩)
theorem ro_div {i j : Int} (h1 : 0 < j) (h2 : j < 1073741824) : Ro K (rI CDiv fun i j => .int (i / j)) (.v (.int i)) (.v (.int j)) (.v (.int (i / j))) := ro_I ⟨h1, h2⟩
theorem ro_mod {i j : Int} (h1 : 0 < j) : Ro K (rI (fun _ j => 0 < j) fun i j => .int (i % j)) (.v (.int i)) (.v (.int j)) (.v (.int (i % j))) := ro_I h1
theorem ro_ixI {ns : List Int} {i : Int} (h0 : 0 ≤ i) (h1 : i < ns.length) : Ro K (rIxL K) (.l (vis ns)) (.v (.int i)) (.v (.int (ns.getD i.toNat 0))) := by
  refine ro_ixL h0 ?_
  have h2 : i.toNat < ns.length := by omega
  rw [List.getElem?_map, List.getD_eq_getElem?_getD, List.getElem?_eq_getElem h2]
  rfl
theorem ro_ixIN {ns : List Int} {i : Int} (h0 : 0 ≤ i) (h1 : i < ns.length) : Ro K (rIxL K) (.n (vis ns)) (.v (.int i)) (.v (.int (ns.getD i.toNat 0))) := fun v w H1 a b => ro_ixI h0 h1 v w H1 a.n2l b
theorem ro_ixT2 {ys : List Str} {i : Int} (h0 : 0 ≤ i) (h1 : i < ys.length) : Ro K (rIxL K) (.l (vss ys)) (.v (.int i)) (.v (.str (ys.getD i.toNat Str.empty))) := by
  refine ro_ixL h0 ?_
  have h2 : i.toNat < ys.length := by omega
  rw [List.getElem?_map, List.getD_eq_getElem?_getD, List.getElem?_eq_getElem h2]
  rfl
theorem ro_ixG {xs : List V} {i : Int} (h0 : 0 ≤ i) (h1 : i < xs.length) : Ro K (rIxL K) (.n xs) (.v (.int i)) (.v (xs.getD i.toNat .non)) := by
  refine ro_ixN h0 ?_
  have h2 : i.toNat < xs.length := by omega
  rw [List.getD_eq_getElem?_getD, List.getElem?_eq_getElem h2]
  rfl
theorem ro_ixC {l : List Nat} {i : Int} (h0 : 0 ≤ i) (h1 : i < l.length) (hz : l.length ≤ 100000) : Ro K rIxS (.v (.str (S l))) (.v (.int i)) (.v (.str (S [l.getD i.toNat 0]))) := by
  refine ro_ixS (by rw [S_len]; exact hz) h0 ?_
  have h2 : i.toNat < l.length := by omega
  rw [S_list, List.getD_eq_getElem?_getD, List.getElem?_eq_getElem h2]
  rfl
theorem ro_addC {a b : List Nat} (h : a.length + b.length ≤ 100000) : Ro K rAddS2 (.v (.str (S a))) (.v (.str (S b))) (.v (.str (S (a ++ b)))) := by
  rw [← S_app]
  exact ro_addS (by rw [S_len, S_len]; exact h)
theorem ro_mulC {a : List Nat} {n : Nat} (hn : n ≤ 1000) (ha : a.length ≤ 1000) : Ro K rMulS (.v (.str (S a))) (.v (.int (n : Int))) (.v (.str (S (List.replicate n a).flatten))) := by
  rw [← S_reps]
  exact ro_mulS hn (by rw [S_len]; exact ha)
theorem ro_eqC {a b : List Nat} : Ro K rEq (.v (.str (S a))) (.v (.str (S b))) (.v (.bl (decide (a = b)))) := by
  have e : decide (V.str (S a) = V.str (S b)) = decide (a = b) := by rw [decide_eq_decide]; exact S_eq
  rw [← e]
  exact ro_eq rfl
theorem ro_neC {a b : List Nat} : Ro K rNe (.v (.str (S a))) (.v (.str (S b))) (.v (.bl (!decide (a = b)))) := by
  have e : decide (V.str (S a) = V.str (S b)) = decide (a = b) := by rw [decide_eq_decide]; exact S_eq
  rw [← e]
  exact ro_ne rfl
theorem ro_eqI {a b : Int} : Ro K rEq (.v (.int a)) (.v (.int b)) (.v (.bl (decide (a = b)))) := by
  have e : decide (V.int a = V.int b) = decide (a = b) := by rw [decide_eq_decide]; exact ⟨V.int.inj, fun h => by rw [h]⟩
  rw [← e]
  exact ro_eq rfl
theorem ro_neI {a b : Int} : Ro K rNe (.v (.int a)) (.v (.int b)) (.v (.bl (!decide (a = b)))) := by
  have e : decide (V.int a = V.int b) = decide (a = b) := by rw [decide_eq_decide]; exact ⟨V.int.inj, fun h => by rw [h]⟩
  rw [← e]
  exact ro_ne rfl
theorem ro_eqB {a b : Bool} : Ro K rEq (.v (.bl a)) (.v (.bl b)) (.v (.bl (decide (a = b)))) := by
  have e : decide (V.bl a = V.bl b) = decide (a = b) := by rw [decide_eq_decide]; exact ⟨V.bl.inj, fun h => by rw [h]⟩
  rw [← e]
  exact ro_eq rfl
theorem ro_neB {a b : Bool} : Ro K rNe (.v (.bl a)) (.v (.bl b)) (.v (.bl (!decide (a = b)))) := by
  have e : decide (V.bl a = V.bl b) = decide (a = b) := by rw [decide_eq_decide]; exact ⟨V.bl.inj, fun h => by rw [h]⟩
  rw [← e]
  exact ro_ne rfl
theorem rc_lenC {z : List Nat} (hz : z.length ≤ 100000) : Rc K rLenStr [.v (.str (S z))] (.v (.int (z.length : Int))) := by
  have h := rc_lenS (K := K) (z := S z) (by rw [S_len]; exact hz)
  rw [S_len] at h
  exact h
theorem rc_lenI {ns : List Int} : Rc K (rLenS K) [.l (vis ns)] (.v (.int (ns.length : Int))) := by
  have h := rc_lenL (K := K) (xs := vis ns)
  rw [List.length_map] at h
  exact h
theorem rc_lenT {ns : List Str} : Rc K (rLenS K) [.l (vss ns)] (.v (.int (ns.length : Int))) := by
  have h := rc_lenL (K := K) (xs := vss ns)
  rw [List.length_map] at h
  exact h
theorem rc_lenIN {ns : List Int} : Rc K (rLenS K) [.n (vis ns)] (.v (.int (ns.length : Int))) := by
  have h := rc_lenN (K := K) (xs := vis ns)
  rw [List.length_map] at h
  exact h
theorem rc_lenTN {ns : List Str} : Rc K (rLenS K) [.n (vss ns)] (.v (.int (ns.length : Int))) := by
  have h := rc_lenN (K := K) (xs := vss ns)
  rw [List.length_map] at h
  exact h
/-- ''.join of texts of one sign each -/
theorem rm_joinC {cs : List Nat} (hz : cs.length ≤ 100000) : Rm K "str" (rJoin K) (.v (.str (S []))) [.n (cs.map fun c => V.str (S [c]))] (.v (.str (S cs))) := by
  have h := rm_join (K := K) (a := S []) (ys := cs.map fun c => S [c]) (by
    rw [List.map_map, List.length_map, S_len]
    have e : ((fun x : Str => x.length) ∘ fun c => S [c]) = fun _ => 1 := by funext c; exact S_len [c]
    rw [e, List.map_const']
    simp
    exact hz)
  rw [join_ones] at h
  have e : vss (cs.map fun c => S [c]) = cs.map fun c => V.str (S [c]) := by rw [vss, List.map_map]; rfl
  rw [e] at h
  exact h
end

/-! ### a def of the text -/
structure At (K : PySem.W.Frag) (mg : Str → Option Value) (x : Str) (st : Stmt) (ps : List Str) : Prop where
  ex : ∃ f fd, mg x = some (.ref f) ∧ Fun K x x st f fd ∧ Binds K fd ps [] ∧
    (ps.length = 1 → ∀ (s : Shared) (w1 : Value), BindsTo s fd ⟨[], ps.zip [w1]⟩ (ps.zip [w1])) ∧
    (∀ p q, ps = [p, q] → ∀ (s : Shared) (w1 w2 : Value), BindsTo s fd ⟨[], [q, p].zip [w1, w2]⟩ ([p, q].zip [w2, w1]))
theorem IsAll.len {K : PySem.W.Frag} {H : Hp} : ∀ {ds : List Dd} {vs : List V}, IsAll K H ds vs → ds.length = vs.length
  | _, _, .nil => rfl
  | _, _, .cons _ b => congrArg (· + 1) (IsAll.len b)
theorem At.hasR {P : Program} {w : World} {K : PySem.W.Frag} {mg : Str → Option Value} {base : Heap} {x : Str} {st : Stmt} {N ps : List Str} {k : Nat} {T : Type} {pre : T → Prop} {args : T → List Dd} {ret : T → Dd}
    (h : At K mg x st ps) (Sc : FnScope N ps (defScope st)) (hl : ∀ a, (args a).length = ps.length)
    (hbody : ∀ (f : Addr) (cdv : Value) (A : Around) (outer : List Env) (s : Shared) (H : Hp) (a : T) (vs : List V) (Q : VK) (E : XK), Room k (A.deeper (envOfC x (defScope st) s.heap.objs.size f cdv)) → pre a → IsAll K H (args a) vs →
      (∀ v H', Ex H H' → Is K H' (ret a) v → Q v H') →
      ∃ t, PSs (cxOf CX0 P w K mg base N x (defScope st) f cdv A outer s H E).nox (defBody st) t ∧ t { nx := fun _ H' => Q .non H', rt := Q } (start N vs) H) :
    Has P w K mg base (k + 1) x ps (spR K pre args ret) := by
  obtain ⟨f, fd, hm, F, b0, b1, b2⟩ := h.ex
  refine ⟨f, fd, hm, F.kp, F.ok Sc (fun vs H Q E hsp => ?_) (fun cdv A outer s H vs Q E hr hsp => ?_), b0, b1, b2⟩
  · obtain ⟨a, _, hv, _⟩ := hsp
    rw [← hv.len, hl]
  · obtain ⟨a, hp, hv, hk⟩ := hsp
    exact hbody f cdv A outer s H a vs Q E hr hp hv hk
theorem Has.mono {P : Program} {w : World} {K : PySem.W.Frag} {mg : Str → Option Value} {base : Heap} {j k : Nat} {x : Str} {ps : List Str} {sp : Sp} (h : Has P w K mg base j x ps sp) (hj : j ≤ k) : Has P w K mg base k x ps sp := by
  obtain ⟨f, fd, a, b, c, d⟩ := h.ex
  exact ⟨f, fd, a, b, c.mono hj, d⟩

/-! ### the same, over texts by their codes -/
section
variable {K : PySem.W.Frag} {σ : L2.St} {H H' : Hp} {te tl : TE} {t : TT} {ta : TA} {D : Ends} {tu tz : TS}
theorem c_forZ {j1 j2 : Nat} {one two : List Nat} (h : Era K ta σ H [.s (S one), .s (S two)]) (Pv : Nat → L2.St → Hp → Prop) (h0 : ∀ H1, Ex H H1 → Pv 0 σ H1)
    (hs : ∀ (i : Nat) c1 c2 σ' H' H2, one[i]? = some c1 → two[i]? = some c2 → Pv i σ' H' → Ex H' H2 → tu { D with nx := Pv (i + 1), ct := Pv (i + 1), bk := tz D } ((σ'.set j1 (some (.str (S [c1])))).set j2 (some (.str (S [c2])))) H2)
    (hd : ∀ σ' H', Pv (min one.length two.length) σ' H' → tz D σ' H') : tSeq (tFor (iZipS ta) (gTup K 2 (gCons (gName j1) (gCons (gName j2) gNil))) tu) tz D σ H :=
  b_forZ h Pv h0 (fun i c1 c2 σ' H' H2 h1 h2 => hs i c1 c2 σ' H' H2 (by rw [← S_at]; exact h1) (by rw [← S_at]; exact h2)) (by rw [S_len, S_len]; exact hd)
theorem c_lcZ {one two : List Nat} {j1 j2 : Nat} {vs : List Nat} (f : Nat × Nat → Bool) (g : Nat × Nat → V) (h : Era K ta σ H [.s (S one), .s (S two)]) (hz : one.length ≤ 40000) (hw : ∀ x y, wipe (((wipe σ vs).set j1 (some x)).set j2 (some y)) vs = wipe σ vs)
    (ht : ∀ (i : Nat) c1 c2 H1, Ex H H1 → one[i]? = some c1 → two[i]? = some c2 → EvT t (((wipe σ vs).set j1 (some (.str (S [c1])))).set j2 (some (.str (S [c2])))) H1 (f (c1, c2)))
    (he : ∀ (i : Nat) c1 c2 H1, Ex H H1 → one[i]? = some c1 → two[i]? = some c2 → f (c1, c2) = true → Er K te (((wipe σ vs).set j1 (some (.str (S [c1])))).set j2 (some (.str (S [c2])))) H1 (.v (g (c1, c2)))) :
    Er K (tLc (iZipS ta) (gTup K 2 (gCons (gName j1) (gCons (gName j2) gNil))) t te vs) σ H (.n (((one.zip two).filter f).map g)) :=
  er_lcZ (one := S one) (two := S two) f g h (by rw [S_len]; exact hz) hw (fun i c1 c2 H1 e h1 h2 => ht i c1 c2 H1 e (by rw [← S_at]; exact h1) (by rw [← S_at]; exact h2)) (fun i c1 c2 H1 e h1 h2 => he i c1 c2 H1 e (by rw [← S_at]; exact h1) (by rw [← S_at]; exact h2))
theorem c_lcE {z : List Nat} {j1 j2 : Nat} {vs : List Nat} (f : Nat × Nat → Bool) (g : Nat × Nat → V) (h : Era K ta σ H [.s (S z)]) (hz : z.length ≤ 40000) (hw : ∀ x y, wipe (((wipe σ vs).set j1 (some x)).set j2 (some y)) vs = wipe σ vs)
    (ht : ∀ (i : Nat) c H1, Ex H H1 → z[i]? = some c → EvT t (((wipe σ vs).set j1 (some (.int (i : Int)))).set j2 (some (.str (S [c])))) H1 (f (c, i)))
    (he : ∀ (i : Nat) c H1, Ex H H1 → z[i]? = some c → f (c, i) = true → Er K te (((wipe σ vs).set j1 (some (.int (i : Int)))).set j2 (some (.str (S [c])))) H1 (.v (g (c, i)))) :
    Er K (tLc (iEnumS ta) (gTup K 2 (gCons (gName j1) (gCons (gName j2) gNil))) t te vs) σ H (.n ((z.zipIdx.filter f).map g)) :=
  er_lcE (z := S z) f g h (by rw [S_len]; exact hz) hw ht he
theorem c_lcS {z : List Nat} {j : Nat} {vs : List Nat} (f : Nat → Bool) (g : Nat → V) (h : Er K tl σ H (.s (S z))) (hz : z.length ≤ 40000) (hw : ∀ x, wipe ((wipe σ vs).set j (some x)) vs = wipe σ vs)
    (ht : ∀ (i : Nat) c H1, Ex H H1 → z[i]? = some c → EvT t ((wipe σ vs).set j (some (.str (S [c])))) H1 (f c)) (he : ∀ (i : Nat) c H1, Ex H H1 → z[i]? = some c → f c = true → Er K te ((wipe σ vs).set j (some (.str (S [c])))) H1 (.v (g c))) :
    Er K (tLc (iStr tl) (gName j) t te vs) σ H (.n ((z.filter f).map g)) :=
  er_lcS (z := S z) f g h (by rw [S_len]; exact hz) hw ht he
/-- an if without else whose branch always leaves, behind it the rest -/
theorem q_leave {b : Bool} (h : EvT t σ H b) (h1 : b = true → ∀ H1, Ex H H1 → tu { D with nx := tz D } σ H1) (h2 : b = false → ∀ H1, Ex H H1 → tz D σ H1) : tSeq (tIfS t tu tNext) tz D σ H := q_when h h1 h2
end

/-! ### tests that carry K -/
def Et (_K : PySem.W.Frag) (t : TT) (σ : L2.St) (H : Hp) (b : Bool) : Prop := EvT t σ H b
section
variable {K : PySem.W.Frag} {σ : L2.St} {H H' : Hp} {te ta tb : TE} {t u : TT} {a b : Bool} {d : Dd} {D : Ends} {tu tw tz : TS} {x y : V}
theorem et1 (h : Er K te σ H (.b b)) : Et K (tTest te) σ H b := et_t h
theorem et2 (h : Er K te σ H (.b b)) : Et K (tB te) σ H b := et_v h
theorem et_an (h1 : Et K t σ H a) (h2 : a = true → Et K u σ H b) : Et K (tAnd t u) σ H (a && b) := et_and h1 h2
theorem et_orr (h1 : Et K t σ H a) (h2 : a = false → Et K u σ H b) : Et K (tOr t u) σ H (a || b) := et_or h1 h2
theorem et_nt (h1 : Et K t σ H a) : Et K (tNot t) σ H (!a) := et_not h1
theorem Et.to (h : Et K t σ H a) (e : a = b) : Et K t σ H b := e ▸ h
theorem er_iff (h : Et K t σ H b) (h1 : b = true → Er K ta σ H d) (h2 : b = false → Er K tb σ H d) : Er K (tIf t ta tb) σ H d := er_if h h1 h2
/-- a if t else b, two values of one kind -/
theorem er_ite {xa xb : V} (h : Et K t σ H b) (h1 : b = true → Er K ta σ H (.v xa)) (h2 : b = false → Er K tb σ H (.v xb)) : Er K (tIf t ta tb) σ H (.v (if b = true then xa else xb)) := er_if h (fun hb => by rw [if_pos hb]; exact h1 hb) (fun hb => by rw [if_neg (by rw [hb]; exact Bool.false_ne_true)]; exact h2 hb)
theorem a_when (h : Et K t σ H b) (h1 : b = true → ∀ H1, Ex H H1 → tu { D with nx := tz D } σ H1) (h2 : b = false → ∀ H1, Ex H H1 → tz D σ H1) : tSeq (tIfS t tu tNext) tz D σ H := q_when h h1 h2
theorem a_when1 (h : Et K t σ H b) (h1 : b = true → ∀ H1, Ex H H1 → tu D σ H1) (h2 : b = false → ∀ H1, Ex H H1 → D.nx σ H1) : tIfS t tu tNext D σ H := s_when h h1 h2
theorem a_if (h : Et K t σ H b) (h1 : b = true → ∀ H1, Ex H H1 → tu { D with nx := tz D } σ H1) (h2 : b = false → ∀ H1, Ex H H1 → tw { D with nx := tz D } σ H1) : tSeq (tIfS t tu tw) tz D σ H := q_if h h1 h2
theorem a_if1 (h : Et K t σ H b) (h1 : b = true → ∀ H1, Ex H H1 → tu D σ H1) (h2 : b = false → ∀ H1, Ex H H1 → tw D σ H1) : tIfS t tu tw D σ H := s_if h h1 h2
/-- if c: x = e: told by what x holds behind it -/
theorem a_ifAsg {i : Nat} (h : Et K t σ H b) (h1 : b = true → Er K te σ H (.v x)) (h2 : b = false → σ.set i (some x) = σ) (k : ∀ H1, Ex H H1 → tz D (σ.set i (some x)) H1) : tSeq (tIfS t (tAsg te (gName i)) tNext) tz D σ H :=
  a_when h (fun hb H1 e1 => a_asg1 (D := { D with nx := tz D }) ((h1 hb).mono e1) fun v H2 e2 z => by
    have ez : v = x := z
    subst ez
    exact k H2 (e1.trans e2)) (fun hb H1 e1 => by
    have g := k H1 e1
    rw [h2 hb] at g
    exact g)
end
theorem filt_true {α : Type} (l : List α) : l.filter (fun _ => true) = l := List.filter_eq_self.mpr fun _ _ => rfl
theorem c_lcZ' {K : PySem.W.Frag} {σ : L2.St} {H : Hp} {te : TE} {ta : TA} {one two : List Nat} {j1 j2 : Nat} {vs : List Nat} (g : Nat × Nat → V) (h : Era K ta σ H [.s (S one), .s (S two)]) (hz : one.length ≤ 40000) (hw : ∀ x y, wipe (((wipe σ vs).set j1 (some x)).set j2 (some y)) vs = wipe σ vs)
    (he : ∀ (i : Nat) c1 c2 H1, Ex H H1 → one[i]? = some c1 → two[i]? = some c2 → Er K te (((wipe σ vs).set j1 (some (.str (S [c1])))).set j2 (some (.str (S [c2])))) H1 (.v (g (c1, c2)))) :
    Er K (tLc (iZipS ta) (gTup K 2 (gCons (gName j1) (gCons (gName j2) gNil))) tYes te vs) σ H (.n ((one.zip two).map g)) := by
  have := c_lcZ (K := K) (t := tYes) (te := te) (fun _ => true) g h hz hw (fun i c1 c2 H1 _ _ _ => fun H2 e Q q => q H2 (Ex.refl _)) (fun i c1 c2 H1 e h1 h2 _ => he i c1 c2 H1 e h1 h2)
  rwa [filt_true] at this
theorem c_lcE' {K : PySem.W.Frag} {σ : L2.St} {H : Hp} {te : TE} {ta : TA} {z : List Nat} {j1 j2 : Nat} {vs : List Nat} (g : Nat × Nat → V) (h : Era K ta σ H [.s (S z)]) (hz : z.length ≤ 40000) (hw : ∀ x y, wipe (((wipe σ vs).set j1 (some x)).set j2 (some y)) vs = wipe σ vs)
    (he : ∀ (i : Nat) c H1, Ex H H1 → z[i]? = some c → Er K te (((wipe σ vs).set j1 (some (.int (i : Int)))).set j2 (some (.str (S [c])))) H1 (.v (g (c, i)))) :
    Er K (tLc (iEnumS ta) (gTup K 2 (gCons (gName j1) (gCons (gName j2) gNil))) tYes te vs) σ H (.n (z.zipIdx.map g)) := by
  have := c_lcE (K := K) (t := tYes) (te := te) (fun _ => true) g h hz hw (fun i c H1 _ _ => fun H2 e Q q => q H2 (Ex.refl _)) (fun i c H1 e h1 _ => he i c H1 e h1)
  rwa [filt_true] at this
theorem c_lcS' {K : PySem.W.Frag} {σ : L2.St} {H : Hp} {te tl : TE} {z : List Nat} {j : Nat} {vs : List Nat} (g : Nat → V) (h : Er K tl σ H (.s (S z))) (hz : z.length ≤ 40000) (hw : ∀ x, wipe ((wipe σ vs).set j (some x)) vs = wipe σ vs)
    (he : ∀ (i : Nat) c H1, Ex H H1 → z[i]? = some c → Er K te ((wipe σ vs).set j (some (.str (S [c])))) H1 (.v (g c))) :
    Er K (tLc (iStr tl) (gName j) tYes te vs) σ H (.n (z.map g)) := by
  have := c_lcS (K := K) (t := tYes) (te := te) (fun _ => true) g h hz hw (fun i c H1 _ _ => fun H2 e Q q => q H2 (Ex.refl _)) (fun i c H1 e h1 _ => he i c H1 e h1)
  rwa [filt_true] at this
theorem er_lcR' {K : PySem.W.Frag} {σ : L2.St} {H : Hp} {te : TE} {ta : TA} {n j : Nat} {vs : List Nat} (g : Nat → V) (h : Era K ta σ H [.v (.int (n : Int))]) (hn : n ≤ 40000) (hw : ∀ x, wipe ((wipe σ vs).set j (some x)) vs = wipe σ vs)
    (he : ∀ i H1, Ex H H1 → i < n → Er K te ((wipe σ vs).set j (some (.int (i : Int)))) H1 (.v (g i))) :
    Er K (tLc (iRng1 ta) (gName j) tYes te vs) σ H (.n ((List.range n).map g)) := by
  have := er_lcR (K := K) (t := tYes) (te := te) (fun _ => true) g h hn hw (fun i H1 _ _ => fun H2 e Q q => q H2 (Ex.refl _)) (fun i H1 e h1 _ => he i H1 e h1)
  rwa [filt_true] at this

/-- a written text by its codes -/
theorem pe_strS {X : Cx} {x : Str} {j : Nat} {pos : Pos} (l : List Nat) (h : x = S l) : PE X (.Constant (.str x) j pos) (tC (.str (S l))) := by
  rw [← h]
  exact pe_str
/-- an if-elif chain's join is left to the reader -/
theorem Er.ofv {K : PySem.W.Frag} {te : TE} {σ : L2.St} {H : Hp} {x y : V} (h : Er K te σ H (.v x)) (e : x = y) : Er K te σ H (.v y) := e ▸ h
example : (("-abc" : Str) = S [45, 97, 98, 99]) := by decide +kernel
example : (("-abc" : Str) = S [45, 97, 98, 99]) := by rfl

section
variable {K : PySem.W.Frag} {σ : L2.St} {H H0 H' : Hp} {te ta tb : TE} {t u : TT} {a b : Bool} {d d' : Dd} {D : Ends} {tu tw tz : TS} {x y : V}
theorem a_rete (h : Er K te σ H d) (hd : d = d') (e0 : Ex H0 H) (hk : ∀ v H', Ex H0 H' → Is K H' d' v → D.rt v H') : tRet te D σ H := a_ret h fun v H1 e z => hk v H1 (e0.trans e) (hd ▸ z)
theorem a_setv {i : Nat} (h : Er K te σ H (.v x)) (k : ∀ H1, Ex H H1 → tz D (σ.set i (some x)) H1) : tSeq (tAsg te (gName i)) tz D σ H := a_asg h fun v H1 e z => by
  have ez : v = x := z
  subst ez
  exact k H1 e
theorem a_setv1 {i : Nat} (h : Er K te σ H (.v x)) (k : ∀ H1, Ex H H1 → D.nx (σ.set i (some x)) H1) : tAsg te (gName i) D σ H := a_asg1 h fun v H1 e z => by
  have ez : v = x := z
  subst ez
  exact k H1 e
end
theorem inV_int (i : Int) (cs : List Int) : inV (.int i) (vis cs) = decide (i ∈ cs) := by
  unfold inV vis
  rw [List.any_map, Bool.eq_iff_iff, List.any_eq_true]
  simp only [Function.comp_apply, decide_eq_true_eq]
  constructor
  · rintro ⟨x, hx, h⟩
    have e : x = i := by simpa [eqV] using h
    exact e ▸ hx
  · intro h
    exact ⟨i, h, by simp [eqV]⟩
theorem flat_vis (cs : List Int) : (vis cs).all flatV = true := by
  rw [List.all_eq_true]
  intro x hx
  obtain ⟨n, _, rfl⟩ := List.mem_map.mp hx
  rfl
theorem replC (a : List Nat) (b c : Nat) : Txt.replace (S a) (S [b]) (S [c]) = S (a.map fun x => if x = b then c else x) := str_ext (by
  rw [StrLaws.replace_list (by rw [S_len]; exact Nat.le_refl 1)]
  exact replL_one b c a)
section
variable {K : PySem.W.Frag}
theorem ro_inLi {i : Int} {cs : List Int} : Ro K (rIn K false) (.v (.int i)) (.l (vis cs)) (.b (decide (i ∈ cs))) := by
  have h := ro_inL (K := K) (neg := false) (x := .int i) (xs := vis cs) rfl (flat_vis cs)
  rw [if_neg Bool.false_ne_true, inV_int] at h
  exact h
theorem ro_inNi {i : Int} {cs : List Int} : Ro K (rIn K false) (.v (.int i)) (.n (vis cs)) (.b (decide (i ∈ cs))) := fun v w H1 a b => ro_inLi v w H1 a b.n2l
theorem ro_inUi {i : Int} {cs : List Int} : Ro K (rIn K false) (.v (.int i)) (.u (vis cs)) (.b (decide (i ∈ cs))) := by
  have h := ro_inU (K := K) (neg := false) (x := .int i) (xs := vis cs) rfl (flat_vis cs)
  rw [if_neg Bool.false_ne_true, inV_int] at h
  exact h
end

/-! ### rules that name K (for use within a comprehension) -/
section
variable {X : Cx} {K : PySem.W.Frag}
theorem op_in_k (h : X.K = K := by rfl) : OpR X (compareOp .In) (rIn K false) := h ▸ op_in_seq
theorem op_notIn_k (h : X.K = K := by rfl) : OpR X (compareOp .NotIn) (rIn K true) := h ▸ op_notIn_seq
theorem op_eqD_k (hu : X.A.units + 64 < cLine) (h : X.K = K := by rfl) : OpR X (compareOp .Eq) (rEqD K) := h ▸ op_eqD hu
theorem op_neD_k (hu : X.A.units + 64 < cLine) (h : X.K = K := by rfl) : OpR X (compareOp .NotEq) (rNeD K) := h ▸ op_neD hu
theorem ix_list_k (h : X.K = K := by rfl) : IxR X (rIxL K) := h ▸ ix_list
theorem ix_tup_k (h : X.K = K := by rfl) : IxR X (rIxT K) := h ▸ ix_tup
theorem sl_list_k (h : X.K = K := by rfl) : SlR X (rSlL K) := h ▸ sl_list
theorem cr_len_k (h : X.K = K := by rfl) : CallR X (.builtin "len") (rLenS K) := h ▸ cr_len
theorem cr_list_k (h : X.K = K := by rfl) : CallR X (.type "list") (rListS K) := h ▸ cr_list
theorem cr_tuple_k (h : X.K = K := by rfl) : CallR X (.type "tuple") (rTupS K) := h ▸ cr_tuple
theorem cr_isi_k (h : X.K = K := by rfl) : CallR X (.builtin "isinstance") (rIsi K) := h ▸ cr_isi
theorem mt_join_k (h : X.K = K := by rfl) : MtR X "str.join" (rJoin K) := h ▸ mt_joinN
theorem mt_count_k (h : X.K = K := by rfl) : MtR X "list.count" (rCntS K) := h ▸ mt_scount
theorem pi_list_k {tg l : Expr} {tl : TE} (h : PE X l tl) (hK : X.K = K := by rfl) : PI X tg l (iList K tl) := hK ▸ pi_list h
theorem pi_tup_k {tg l : Expr} {tl : TE} (h : PE X l tl) (hK : X.K = K := by rfl) : PI X tg l (iTup K tl) := hK ▸ pi_tup h
theorem pe_bm_k {o e : Expr} {es : List Expr} {to : TE} {t : TA} {name : Str} {apos cpos : Pos} {T id : String} {r : V → List V → Hp → VK → Prop} (pa : PlainAttrs T) (slot : Slot T name id) (hty : typeOf (.builtin id) = pure (.type "method_descriptor")) (hm : MtR X id r) (ho : PE X o to) (ha : PA X (e :: es) t)
    (hK : X.K = K := by rfl) (hbase : attributeBase o name X.env (eval o X.env) = eval o X.env := by rfl)
    (hfew : ((backTo cpos (starEach (e :: es) X.env)).all (fun x => !x.1) && (backToKw cpos (keywordEach [] X.env)).all (fun x => x.1.isSome)
      && decide ((e :: es).length + ([] : List Keyword).length + (if ([] : List Keyword).isEmpty then 0 else 1) < 30)) = true := by rfl)
    (hline : (apos.endLine == cpos.line) = true := by rfl) (hs : starEach (e :: es) X.env = (false, eval e X.env) :: starEach es X.env := by rfl) (hplain : (backTo cpos (starEach es X.env)).any (·.1) = false := by rfl) :
    PE X (.Call (.Attribute o name apos) (e :: es) [] cpos) (tBM K T r to t) := hK ▸ pe_bm pa slot hty hm ho ha hbase hfew hline hs hplain
end

theorem ro_1018 {K : PySem.W.Frag} : Ro K (rI CPow fun i j => .int (i ^ j.toNat)) (.v (.int 10)) (.v (.int 18)) (.v (.int 1000000000000000000)) := ro_I (K := K) (C := CPow) (g := fun i j => .int (i ^ j.toNat)) (i := 10) (j := 18) ⟨by decide, by decide, by decide⟩
theorem getD_vis {ns : List Int} {j : Nat} (h : j < ns.length) : (vis ns).getD j .non = .int (ns.getD j 0) := by
  rw [List.getD_eq_getElem?_getD, List.getD_eq_getElem?_getD, List.getElem?_map, List.getElem?_eq_getElem h]
  rfl
theorem vis_at {ns : List Int} {i : Nat} {x : V} (h : (vis ns)[i]? = some x) : ∃ n, ns[i]? = some n ∧ V.int n = x := by
  rw [List.getElem?_map] at h
  cases q : ns[i]? with
  | none => rw [q] at h; cases h
  | some n => rw [q] at h; exact ⟨n, rfl, Option.some.inj h⟩
theorem map_take_next {α β : Type} {l : List α} {f : α → β} {i : Nat} {x : α} (h : l[i]? = some x) : (l.take (i + 1)).map f = (l.take i).map f ++ [f x] := by
  rw [List.take_add_one, h, List.map_append]
  rfl
theorem zipIdx_at {α : Type} {l : List α} {i : Nat} {x : α} (h : l[i]? = some x) : l.zipIdx[i]? = some (x, i) := by
  rw [List.getElem?_zipIdx, h]
  simp

theorem vis_app (a : List Int) (n : Int) : vis (a ++ [n]) = vis a ++ [.int n] := by
  rw [vis, List.map_append]
  rfl
theorem vss_app (a : List Str) (n : Str) : vss (a ++ [n]) = vss a ++ [.str n] := by
  rw [vss, List.map_append]
  rfl

section
variable {K : PySem.W.Frag} {σ : L2.St} {H : Hp} {te ta tb tc : TE} {x y : V} {b : Bool}
/-- [x, y][int(b)] -/
theorem er_pick (h1 : Er K ta σ H (.v x)) (h2 : Er K tb σ H (.v y)) (hb : Er K tc σ H (.b b)) : Er K (tOp (rIxL K) (tLst (tCons ta (tCons tb tNil))) (tCB rInt1 (tCons tc tNil))) σ H (.v (if b = true then y else x)) := by
  refine er_op (d1 := .n [x, y]) (d2 := .i (if b then 1 else 0)) (er_lst (vs := [x, y]) (era_cons h1 (era_cons h2 era_nil)) (by simp)) (er_cb (era_cons hb era_nil) rc_intB) ?_
  cases b with
  | true => exact ro_ixN (by decide) rfl
  | false => exact ro_ixN (by decide) rfl
end
theorem cutS_to (l : List Nat) (n : Nat) : cutS (S l) none (some (n : Int)) = S (l.take n) := by
  unfold cutS
  rw [HT.sIx_none, HT.sIx_nat]
  show S _ = S _
  congr 1
  rw [List.drop_zero, S_list, S_len, Nat.sub_zero, List.take_eq_take_iff]
  omega
theorem cutS_from (l : List Nat) (n : Nat) : cutS (S l) (some (n : Int)) none = S (l.drop n) := by
  unfold cutS
  rw [HT.sIx_none, HT.sIx_nat, S_len, S_list]
  show S _ = S _
  congr 1
  by_cases h : n ≤ l.length
  · rw [Nat.min_eq_left h, List.take_of_length_le (by rw [List.length_drop]; exact Nat.le_refl _)]
  · rw [Nat.min_eq_right (by omega), List.drop_of_length_le (by omega : l.length ≤ n), List.drop_length]
    simp
theorem cutV_from (l : List V) (n : Nat) : cutV l (some (n : Int)) none = l.drop n := by
  unfold cutV
  rw [HT.sIx_none, HT.sIx_nat]
  by_cases h : n ≤ l.length
  · rw [Nat.min_eq_left h, List.take_of_length_le (by rw [List.length_drop]; exact Nat.le_refl _)]
  · rw [Nat.min_eq_right (by omega), List.drop_of_length_le (by omega : l.length ≤ n), List.drop_length]
    simp
theorem cutV_mid (l : List V) (n m : Nat) (h : n ≤ m) (hm : m ≤ l.length) : cutV l (some (n : Int)) (some (m : Int)) = (l.drop n).take (m - n) := by
  unfold cutV
  simp only [HT.sIx_nat, Nat.min_eq_left hm, Nat.min_eq_left (Nat.le_trans h hm)]
section
variable {K : PySem.W.Frag} {σ : L2.St} {H : Hp} {te ta tb : TE}
theorem er_slTo {l : List Nat} {n : Nat} (h : Er K te σ H (.s (S l))) (hz : l.length ≤ 100000) (h2 : Er K tb σ H (.i (n : Int))) : Er K (tSl rSlS te tNoPart (tPart tb)) σ H (.s (S (l.take n))) := by
  rw [← cutS_to]
  exact er_slS h (by rw [S_len]; exact hz) eo_non (eo_of h2)
theorem er_slFrom {l : List Nat} {n : Nat} (h : Er K te σ H (.s (S l))) (hz : l.length ≤ 100000) (h2 : Er K tb σ H (.i (n : Int))) : Er K (tSl rSlS te (tPart tb) tNoPart) σ H (.s (S (l.drop n))) := by
  rw [← cutS_from]
  exact er_slS h (by rw [S_len]; exact hz) (eo_of h2) eo_non
theorem vis_drop (ns : List Int) (n : Nat) : (vis ns).drop n = vis (ns.drop n) := by rw [vis, ← List.map_drop]
theorem vis_take (ns : List Int) (n : Nat) : (vis ns).take n = vis (ns.take n) := by rw [vis, ← List.map_take]
theorem er_slvFrom {ns : List Int} {n : Nat} (h : Er K te σ H (.l (vis ns))) (h2 : Er K tb σ H (.i (n : Int))) : Er K (tSl (rSlL K) te (tPart tb) tNoPart) σ H (.n (vis (ns.drop n))) := by
  rw [← vis_drop, ← cutV_from]
  exact er_slL h (eo_of h2) eo_non
theorem er_slvMid {ns : List Int} {n m : Nat} (h : Er K te σ H (.l (vis ns))) (h1 : Er K ta σ H (.i (n : Int))) (h2 : Er K tb σ H (.i (m : Int))) (hnm : n ≤ m) (hm : m ≤ ns.length) : Er K (tSl (rSlL K) te (tPart ta) (tPart tb)) σ H (.n (vis ((ns.drop n).take (m - n)))) := by
  rw [← vis_take, ← vis_drop, ← cutV_mid _ _ _ hnm (by rw [List.length_map]; exact hm)]
  exact er_slL h (eo_of h1) (eo_of h2)
end
end Mi

set_option maxHeartbeats 2000000
namespace Mi
open PySem PySem.Spec PyProof.Rows L2 Evl
section
variable {K : PySem.W.Frag} {σ : L2.St} {H H0 H' : Hp} {te ta tb : TE} {t u : TT} {a b : Bool} {d d' : Dd} {D : Ends} {tu tw tz : TS} {x y : V}
/-- if c: x = e, over texts of one sign -/
theorem a_ifSetC {i c e : Nat} (h : Et K t σ H b) (h1 : b = true → Er K te σ H (.s (S [c]))) (h2 : σ.set i (some (.str (S [e]))) = σ) (k : ∀ H1, Ex H H1 → tz D (σ.set i (some (.str (S [if b = true then c else e])))) H1) : tSeq (tIfS t (tAsg te (gName i)) tNext) tz D σ H :=
  a_ifAsg (x := .str (S [if b = true then c else e])) h (fun hb => by rw [if_pos hb]; exact h1 hb) (fun hb => by rw [if_neg (by rw [hb]; exact Bool.false_ne_true)]; exact h2) k
theorem er_pickC {c e : Nat} (h1 : Er K ta σ H (.s (S [c]))) (h2 : Er K tb σ H (.s (S [e]))) (hb : Er K te σ H (.b b)) : Er K (tOp (rIxL K) (tLst (tCons ta (tCons tb tNil))) (tCB rInt1 (tCons te tNil))) σ H (.s (S [if b = true then e else c])) := by
  have h := er_pick h1 h2 hb
  have e0 : (if b = true then V.str (S [e]) else V.str (S [c])) = V.str (S [if b = true then e else c]) := by cases b <;> rfl
  rw [e0] at h
  exact h
end
end Mi

set_option maxHeartbeats 4000000
namespace Mi
open PySem PySem.Spec PyProof.Rows L2 Evl PySem.W

/-! ### an object of ours that was not tracked is tracked from here on -/
theorem inv_track {X : Cx} {pins : List (Addr × Obj)} {σ : L2.St} {H : Hp} {s : Shared} {hp : Heap} {tn : Nat} {ch : List Addr} {T : Addr} {ob : HO} (I : Inv X pins σ H s) (kp : ∀ b o, b ∉ ch → s.heap.get? b = some o → hp.get? b = some o) (ok : ∀ b ∈ ch, FpOk X pins H b) (hT : T ∈ ch)
    (new : ObjOk X.prog X.w (upd H T ob) hp T ob) : Inv X pins σ (upd H T ob) { s with heap := hp, toks := tn } := by
  have hN : H T = none := (ok T hT).1
  have away : ∀ b u, H b = some u → b ∉ ch := fun b u e z => by
    rw [(ok b z).1] at e
    cases e
  have same : ∀ {b u}, H b = some u → upd H T ob b = some u := fun {b u} e => by
    have hb : b ≠ T := fun z => by rw [z, hN] at e; cases e
    rw [upd_ne hb]
    exact e
  refine I.step (ch := ch) ?a1 ?a2 ?a3 ?a4 ?a5 ?a6 ?a7 ?a8 ?a9 ?b1 I.bare
  case a1 => exact fun b hb => ⟨(ok b hb).2.2.2.1, (ok b hb).2.1, (ok b hb).2.2.2.2.1, (ok b hb).2.2.2.2.2⟩
  case a2 => exact fun b o _ _ hc e _ => kp b o hc e
  case a3 => exact fun b o _ _ hc e _ => ⟨o.slots, kp b o hc e⟩
  case a4 =>
    intro b o hc e n
    have hb : b ≠ T := by
      rintro rfl
      exact hc hT
    rw [upd_ne hb]
    exact n
  case a5 => exact fun b o hc e => ⟨o, kp b o hc e⟩
  case a6 => exact fun b xs e => same e
  case a7 => exact fun b o u e => same e
  case a8 =>
    intro b ps e
    refine ⟨#[], ?_⟩
    rw [same e]
    simp
  case a9 =>
    rintro m ⟨o, es, ep, ho, r⟩
    exact ⟨o, es, ep, kp _ o (fun z => (ok _ z).2.1 rfl) ho, r⟩
  case b1 =>
    intro b u e
    by_cases hb : b = T
    · subst hb
      rw [upd_same] at e
      cases e
      exact new
    · rw [upd_ne hb] at e
      refine (I.hok b u e).stay (fun c v hc z => kp c v ?_ z) (fun c z => same z) fun c xs z => same z
      rcases hc with z | z
      · exact z ▸ away b u e
      · exact away c _ z

/-! ### sorted by a def that answers its text -/
abbrev spId (K : PySem.W.Frag) : Sp := spR K (fun _ : List Nat => True) (fun a => [.s (S a)]) fun a => .s (S a)
def ordd (b : Bool) (ys : List (List Nat)) : List (List Nat) := ys.mergeSort (if b = true then fun x y => decide (y ≤ x) else fun x y => decide (x ≤ y))
def IsT (u : Value) (z : List Nat) : Prop := ∃ t, u = .str (S z) t
theorem each_of_vals : ∀ {ys : List (List Nat)} {us : List Value}, Vals (vss (ys.map S)) us → EachIs IsT us ys
  | [], _, h => by cases h; exact .nil
  | z :: r, _, h => by
    cases h with
    | cons a b => exact .cons a (each_of_vals b)
theorem vals_of_each : ∀ {us : List Value} {ys : List (List Nat)}, EachIs IsT us ys → Vals (vss (ys.map S)) us
  | _, _, .nil => .nil
  | _, _, .cons a b => .cons a (vals_of_each b)
theorem each_more {u : Value} {z : List Nat} (hu : IsT u z) : ∀ {us : List Value} {ys : List (List Nat)}, EachIs IsT us ys → EachIs IsT (us ++ [u]) (ys ++ [z])
  | _, _, .nil => .cons hu .nil
  | _, _, .cons a b => .cons a (each_more hu b)
theorem reads_of_each {hp : Heap} {us : List Value} {ys : List (List Nat)} (h : EachIs IsT us ys) : EachIs (fun v d => ∃ as, Reads hp v d as) us (ys.map fun z => PyData.str (S z)) := by
  induction h with
  | nil => exact .nil
  | cons a b ih =>
    obtain ⟨t, rfl⟩ := a
    exact .cons ⟨[], .str _ t⟩ ih
theorem dataLe_S (b : Bool) : dataLe b (fun z : List Nat => PyData.str (S z)) = if b = true then fun x y => decide (y ≤ x) else fun x y => decide (x ≤ y) := by
  cases b
  · rw [dataLe_str]; rfl
  · rw [dataGe_str]; rfl
/-- the heap without the object at k -/
def less (hp : Heap) (k : Addr) : Heap := hp.update k fun o => { o with data := .freed }
theorem less_at {hp : Heap} {k : Addr} {o : Obj} (h : hp.get? k = some o) : (less hp k).get? k = none := by
  cases hp with
  | mk objs l =>
    unfold less Heap.update Heap.get?
    simp only [Array.getElem?_modify, if_true]
    cases e : objs[k]? with
    | none => rfl
    | some q => rfl
theorem less_ne {hp : Heap} {k c : Addr} (h : c ≠ k) : (less hp k).get? c = hp.get? c := by
  unfold less
  rw [Heap.get?_update_ne _ _ _ _ h]
theorem each_at : ∀ {us : List Value} {ys : List (List Nat)} {i : Nat} {u : Value}, EachIs IsT us ys → us[i]? = some u → ∃ z, ys[i]? = some z ∧ IsT u z
  | [], _, _, _, _, h => by simp at h
  | _ :: _, _, 0, _, e, h => by
    cases e with
    | cons a b => exact ⟨_, rfl, Option.some.inj h ▸ a⟩
  | _ :: _, _, i + 1, _, e, h => by
    cases e with
    | cons a b => exact each_at (i := i) b h
theorem sorted_def {X : Cx} {k : Nat} {f : Addr} {fd : FuncData} {pn : Str} {b : Bool} {kw : List (Str × Value)} {pins : List (Addr × Obj)} {s : Shared} {σ : L2.St} {H : Hp} {a : Addr} {ys : List (List Nat)} {Q : VK}
    (F : FnOk X.prog X.w X.K X.mg X.base CX0 k f fd [pn] (spId X.K)) (hb : Binds X.K fd [pn] []) (hr : Room (k + 2) X.A) (I : Inv X pins σ H s) (hs : SqL X.K H a (vss (ys.map S)))
    (ha1 : argsOk "sorted" ⟨[.ref a], kw⟩) (ha2 : ∀ x, argsOk "list.sort" ⟨[.ref x], kw⟩) (ht : ∀ x, Builtin.«list.sort» ⟨[.ref x], kw⟩ = ksk_tree x (.ref f) b)
    (q : ∀ H2 p, Ex H H2 → H2 p = none → Q (.ref p) (upd H2 p (.lst (vss ((ordd b ys).map S))))) :
    wpAny (model X.prog X.w) X.A (call (.builtin "sorted") [.ref a] kw) (EP X pins σ Q) X.xe s := by
  obtain ⟨its, rv, hl, hz⟩ := I.list hs
  have hev := each_of_vals rv
  have hle : its.length = ys.length := hev.length
  have hZ : its.length ≤ sizeLine := by rw [← rv.length]; exact hz
  have un : X.A.in1.in1.units < cLine := by
    have h := hr.un
    show X.A.units + 1 + 1 < cLine
    omega
  have hr2 : Room k X.A.in1.in1 := (Room.in1 (show Room (k + 1 + 1) X.A from hr)).in1
  refine sorted_of_sort hl.isList hZ ha1 ha2 fun E' => ?_
  rw [ht]
  have hD := copyHeap_at s.heap its
  generalize eD : s.heap.objs.size + 1 = D at hD ⊢
  have hDs : D < (copyHeap s.heap its).objs.size := Heap.lt_size hD
  obtain ⟨e1, hD1⟩ : ∃ e1, ((copyHeap s.heap its).update D (Obj.mapSeq fun _ => (#[] : Array Value))).get? D = some (seqObj "list" #[] e1) := ⟨_, get?_update_seq hD fun _ => #[]⟩
  unfold ksk_tree
  refine wpAny_bind (listItems_at (s := { s with heap := copyHeap s.heap its }) hD rfl ?_)
  refine wpAny_bind (listUpdate_at (s := { s with heap := copyHeap s.heap its }) hD rfl ?_ (by rw [List.size_toArray]; exact hZ) (Nat.zero_le _))
  refine wpAny_bind (seqEpoch_at (s := { s with heap := (copyHeap s.heap its).update D (Obj.mapSeq fun _ => (#[] : Array Value)) }) hD1 rfl ?_)
  refine wpAny_bind (wpAny_newTuple ?_ (show its.length ≤ _ from hZ))
  refine wpAny_bind (wpAny_newList ?_ (Nat.zero_le _))
  refine wpAny_holding ?_
  have oldC : ∀ c o, s.heap.get? c = some o → c ≠ D ∧ (copyHeap s.heap its).get? c = some o := fun c o e => ⟨fun z => by
    have h1 : c < s.heap.objs.size := Heap.lt_size e
    rw [z, ← eD] at h1
    exact absurd h1 (Nat.not_lt.mpr (Nat.le_succ _)), copyHeap_old e⟩
  have dge : s.heap.objs.size ≤ D := Nat.le_of_succ_le (Nat.le_of_eq eD)
  have szK : (((copyHeap s.heap its).update D (Obj.mapSeq fun _ => (#[] : Array Value))).push (seqObj "tuple" its.toArray 0)).objs.size = (copyHeap s.heap its).objs.size + 1 := by rw [size_push', Heap.size_update]
  have hK : ((((copyHeap s.heap its).update D (Obj.mapSeq fun _ => (#[] : Array Value))).push (seqObj "tuple" its.toArray 0)).push (seqObj "list" #[] 0)).get? (((copyHeap s.heap its).update D (Obj.mapSeq fun _ => (#[] : Array Value))).push (seqObj "tuple" its.toArray 0)).objs.size = some (seqObj "list" #[] 0) := Heap.get?_push_size _ rfl
  have hD2 : ((((copyHeap s.heap its).update D (Obj.mapSeq fun _ => (#[] : Array Value))).push (seqObj "tuple" its.toArray 0)).push (seqObj "list" #[] 0)).get? D = some (seqObj "list" #[] e1) := Heap.get?_push_of_some _ (Heap.get?_push_of_some _ hD1)
  have old2 : ∀ c o, s.heap.get? c = some o → ((((copyHeap s.heap its).update D (Obj.mapSeq fun _ => (#[] : Array Value))).push (seqObj "tuple" its.toArray 0)).push (seqObj "list" #[] 0)).get? c = some o := fun c o e => by
    obtain ⟨c1, c2⟩ := oldC c o e
    exact Heap.get?_push_of_some _ (Heap.get?_push_of_some _ ((Heap.get?_update_ne _ _ _ _ c1).trans c2))
  have hKge : s.heap.objs.size ≤ (((copyHeap s.heap its).update D (Obj.mapSeq fun _ => (#[] : Array Value))).push (seqObj "tuple" its.toArray 0)).objs.size := by rw [szK]; omega
  have hDK : D ≠ (((copyHeap s.heap its).update D (Obj.mapSeq fun _ => (#[] : Array Value))).push (seqObj "tuple" its.toArray 0)).objs.size := by rw [szK]; omega
  show wpAny _ _ (ksk_rest D (.ref f) b its.toArray e1 (.ref (((copyHeap s.heap its).update D (Obj.mapSeq fun _ => (#[] : Array Value))).push (seqObj "tuple" its.toArray 0)).objs.size)) _ _ { s with heap := ((((copyHeap s.heap its).update D (Obj.mapSeq fun _ => (#[] : Array Value))).push (seqObj "tuple" its.toArray 0)).push (seqObj "list" #[] 0)) }
  revert hK hD2 old2 hKge hDK
  generalize (((copyHeap s.heap its).update D (Obj.mapSeq fun _ => (#[] : Array Value))).push (seqObj "tuple" its.toArray 0)).objs.size = kS
  generalize ((((copyHeap s.heap its).update D (Obj.mapSeq fun _ => (#[] : Array Value))).push (seqObj "tuple" its.toArray 0)).push (seqObj "list" #[] 0)) = hh
  intro hK hD2 old2 hKge hDK
  have I2 : Inv X pins σ H { s with heap := hh } := I.kept (t' := s.toks) old2
  have hDge : s.heap.objs.size ≤ D := dge
  have fD : FpOk X pins H D := I.fpOk hDge (I.hok.fresh hDge)
  have fK : FpOk X pins H kS := I.fpOk hKge (I.hok.fresh hKge)
  have repin : ∀ {H' : Hp} {t : Shared} {kA : Array Value} {e : Nat}, Inv X pins σ H' t → t.heap.get? D = some (seqObj "list" #[] e1) → H' D = none → t.heap.get? kS = some (seqObj "list" kA e) → H' kS = none → Inv X (pins ++ [(D, seqObj "list" #[] e1), (kS, seqObj "list" kA e)]) σ H' t := by
    intro H' t kA e J d1 d2 k1 k2
    refine J.pins_of fun p hp => ?_
    rcases List.mem_append.mp hp with h | h
    · exact J.pin p (List.mem_append_right _ h)
    · rcases List.mem_cons.mp h with rfl | h
      · exact ⟨d1, d2, fD.2.1, fD.2.2.1, fun v => by simp [seqObj]⟩
      · rw [List.mem_singleton.mp h]
        exact ⟨k1, k2, fK.2.1, fK.2.2.1, fun v => by simp [seqObj]⟩
  unfold ksk_rest
  refine wpAny_bind (wpAny_rule ?_)
  first
    | rw [List.forIn_toArray]
    | (rw [← Array.forIn_toList]; simp only [List.toList_toArray])
    | rw [← Array.forIn_toList]
  refine wpAny_bind (ksk_fold (fun i t => ∃ H' kA e, Ex H H' ∧ Inv X (pins ++ [(D, seqObj "list" #[] e1), (kS, seqObj "list" kA e)]) σ H' t ∧ EachIs IsT kA.toList (ys.take i)) its 0 { s with heap := hh } ⟨H, #[], 0, Ex.refl H, repin I2 hD2 fD.1 hK fK.1, by rw [List.take_zero]; exact .nil⟩ ?turn ?over)
  case turn =>
    rintro j x t hx ⟨H', kA, e, hex, J, hk⟩
    simp only [Nat.zero_add] at hk ⊢
    obtain ⟨z, hz1, tz, rfl⟩ := each_at hev hx
    have hj : j < its.length := (List.getElem?_eq_some_iff.mp hx).1
    have hkz : kA.size ≤ its.length := by
      have h1 := hk.length
      rw [Array.length_toList, List.length_take] at h1
      omega
    have call1 : wpAny (model X.prog X.w) X.A.in1.in1 (call (.ref f) [.str (S z) tz]) (EP X (pins ++ [(D, seqObj "list" #[] e1), (kS, seqObj "list" kA e)]) σ fun v H2 => v = .str (S z) ∧ Ex H' H2) (fun _ _ => False) t := by
      have rx : Vals [V.str (S z)] [Value.str (S z) tz] := .cons ⟨tz, rfl⟩ .nil
      have hsp : spId X.K [V.str (S z)] H' (fun v H2 => v = .str (S z) ∧ Ex H' H2) E0 := ⟨z, trivial, .cons rfl .nil, fun v H2 ee hv => ⟨hv, ee⟩⟩
      have bd := hb t [.str (S z) tz] J.kIn rfl
      refine wpAny_call (codeAny_mono (F.run X.A.in1.in1 X.stack t H' ⟨[.str (S z) tz], []⟩ _ _ _ E0 hr2 J.env0.in1.in1 bd rx hsp) fun r t' hq => ?_)
      cases r with
      | error e => exact hq.elim
      | ok fl =>
        cases fl with
        | ret u => exact J.after hq
        | next => exact hq.elim
        | brk => exact hq.elim
        | cont => exact hq.elim
    refine wpAny_bind (wpAny_attempt (wpAny_mono call1 (fun u t2 hu => ?_) fun _ _ hF => False.elim hF))
    obtain ⟨v, H2, J2, ru, rfl, hex2⟩ := hu
    obtain ⟨tu, rfl⟩ := ru
    have pD := J2.pin (D, seqObj "list" #[] e1) (List.mem_append_right _ (List.mem_append_right _ (.head _)))
    have pK := J2.pin (kS, seqObj "list" kA e) (List.mem_append_right _ (List.mem_append_right _ (.tail _ (.head _))))
    try dsimp only
    obtain ⟨c2, hc2⟩ : ∃ c2, (t2.heap.update kS (Obj.mapSeq (·.push (.str (S z) tu)))).get? kS = some (seqObj "list" (kA.push (.str (S z) tu)) c2) := ⟨_, get?_update_seq pK.1 (·.push _)⟩
    have keepK : ∀ b o, b ∉ [kS] → t2.heap.get? b = some o → (t2.heap.update kS (Obj.mapSeq (·.push (.str (S z) tu)))).get? b = some o := fun b o hb ho => (Heap.get?_update_ne _ _ _ _ (fun z => hb (by rw [z]; exact .head _))).trans ho
    have hsz2 : (kA.push (.str (S z) tu)).size ≤ sizeLine + 1 := by
      rw [Array.size_push]
      omega
    refine wpAny_bind (listUpdate_at pK.1 rfl ?_ (by omega) hsz2)
    refine wpAny_pure ⟨rfl, H2, kA.push (.str (S z) tu), c2, hex.trans hex2, ?_, ?_⟩
    · refine repin (Inv.turnedL (t' := t2.toks) J2.unpinned keepK (fun b hb => ?_)) ?_ pD.2.1 hc2 pK.2.1
      · rw [List.mem_singleton.mp hb]
        exact ⟨pK.2.1, fK.2⟩
      · exact keepK D _ (fun h => hDK (List.mem_singleton.mp h)) pD.1
    · have ek : ys.take (j + 1) = ys.take j ++ [z] := by rw [List.take_add_one, hz1]; rfl
      rw [ek, Array.toList_push]
      exact each_more ⟨tu, rfl⟩ hk
  case over =>
    rintro t ⟨H', kA, e, hex, J, hk⟩
    have e3 : ys.take (0 + its.length) = ys := List.take_of_length_le (by omega)
    rw [e3] at hk
    have hsz : kA.size = its.length := by
      have h1 := hk.length
      rw [Array.length_toList] at h1
      omega
    have pD := J.pin (D, seqObj "list" #[] e1) (List.mem_append_right _ (List.mem_append_right _ (.head _)))
    have pK := J.pin (kS, seqObj "list" kA e) (List.mem_append_right _ (List.mem_append_right _ (.tail _ (.head _))))
    try dsimp only
    refine wpAny_bind (listItems_at pK.1 rfl ?_)
    have alk : AllAlike (ys.map fun z => PyData.str (S z)) := AllAlike.of fun _ _ => rfl
    have srt : Sortable (ys.map fun z => PyData.str (S z)) := Sortable.others fun z => ⟨by simp, fun xs => by simp⟩
    have dep : ∀ d, d ∈ ys.map (fun z => PyData.str (S z)) → X.A.in1.in1.units + d.depth < cLine := fun d hd => by
      obtain ⟨z, _, rfl⟩ := List.mem_map.mp hd
      show X.A.in1.in1.units + 0 < cLine
      omega
    have rd := reads_of_each (hp := t.heap) hk
    have kb : KeepsBut D (less t.heap kS) t.heap := fun c o hc ho => by
      have hck : c ≠ kS := fun z => by rw [z, less_at pK.1] at ho; cases ho
      rw [less_ne hck] at ho
      exact ho
    refine keyH_end (κ := dataKind t.heap (ys.map fun z => PyData.str (S z))) (h₁ := less t.heap kS) kb (less_at pK.1) pK.1 pD.1 (Ne.symm hDK) (SortsAt.data rd alk srt dep) hsz hZ fun h4 tk c k4 n4 => ⟨rfl, ?_⟩
    have out1 : EachIs IsT (sortVals (dataKind t.heap (ys.map fun z => PyData.str (S z))) b kA.toList its) (ys.mergeSort (dataLe b fun z => PyData.str (S z))) := keyedOut_each (rev := b) (fun z => PyData.str (S z)) ⟨t.heap, kA.toList, alk, rfl, rd⟩ hev
    rw [dataLe_S] at out1
    have keep4 : ∀ c o, c ∉ [kS, D] → t.heap.get? c = some o → h4.get? c = some o := fun c o hc ho => by
      refine k4 c o (fun z => hc (by rw [z]; simp)) ?_
      rw [less_ne (fun z => hc (by rw [z]; simp))]
      exact ho
    have hlen4 : (vss ((ordd b ys).map S)).length ≤ sizeLine := by
      unfold vss ordd
      rw [List.length_map, List.length_map, List.length_mergeSort]
      omega
    have J4 : Inv X pins σ (upd H' D (.lst (vss ((ordd b ys).map S)))) { t with heap := h4, toks := tk } := by
      refine inv_track J.unpinned keep4 (fun c hc => ?_) (by simp) ⟨hlen4, _, c, vals_of_each out1, n4⟩
      rcases List.mem_cons.mp hc with rfl | hc
      · exact ⟨pK.2.1, fK.2⟩
      · rw [List.mem_singleton.mp hc]
        exact ⟨pD.2.1, fD.2⟩
    exact ⟨.ref D, _, J4, rfl, q H' D hex pD.2.1⟩

/-- sorted(e, key=f[, reverse=True]), f a def of the text -/
def rSortD (K : PySem.W.Frag) (b : Bool) (vs : List V) (H : Hp) (Q : VK) : Prop := ∃ (a : Addr) (ys : List (List Nat)), vs = [.ref a] ∧ SqL K H a (vss (ys.map S)) ∧ ∀ H2 p, Ex H H2 → H2 p = none → Q (.ref p) (upd H2 p (.lst (vss ((ordd b ys).map S))))
def tSortD (K : PySem.W.Frag) (b : Bool) (t : TE) : TE := fun σ H Q => tCons t tNil σ H fun vs H1 => rSortD K b vs H1 Q
section
variable {X : Cx} {k : Nat} {x pn : Str} {p px pos k1 k2 : Pos} {e : Expr} {t : TE}
theorem pe_sortD (F : Has X.prog X.w X.K X.mg X.base k x [pn] (spId X.K)) (hr : Room (k + 2) X.A) (hg : Gl X "sorted") (hm : X.mg "sorted" = none) (hgx : Gl X x) (he : PA X [e] (tCons t tNil)) (hdb : (x == ("__debug__" : Str)) = false := by decide)
    (hs : backTo pos (starEach [e] X.env) = (false, eval e X.env) :: backTo pos (starEach [] X.env) := by rfl) (hpl : (backTo pos (starEach [e] X.env)).any (·.1) = false := by rfl)
    (hall : (backToKw pos (keywordEach [⟨some "key", .Name x px, k1⟩] X.env)).all (·.1.isSome) = true := by rfl) (hnone : (backToKw pos (keywordEach [⟨some "key", .Name x px, k1⟩] X.env)).any (·.1.isNone) = false := by rfl) (hks : (backToKw pos (keywordEach [⟨some "key", .Name x px, k1⟩] X.env)).filterMap (·.1) = [Str.ofString "key"] := by rfl) :
    PE X (.Call (.Name "sorted" p) [e] [⟨some "key", .Name x px, k1⟩] pos) (tSortD X.K false t) := by
  obtain ⟨f, fd, hmx, hk, F, hb, _⟩ := F.ex
  have hc : CallRK X (.builtin "sorted") [Str.ofString "key"] (fun vs zs H Q => zs = [.ref f] ∧ rSortD X.K false vs H Q) := by
    rintro pins s σ H vs zs us ws Q I r rz ⟨rfl, a, ys, rfl, hs, q⟩
    obtain rfl := Vals.ref1 r
    obtain ⟨w1, rfl, e1⟩ := vals1 rz
    obtain rfl : w1 = Value.ref f := e1
    exact sorted_def (b := false) F hb hr I hs (ksk_s1 _ _) (fun _ => ksk_l1 _ _) (fun x => ksk_t1 f x) q
  have P1 := pe_callBK (p := p) (pos := pos) hc hg hm (by rfl) he (pk_cons (pe_glob (pos := px) (v := .ref f) hgx hmx rfl hdb) pk_nil) (by decide) (by decide) hs hpl hall hnone hks
  refine ⟨fun pins s σ H Q I h => P1.run pins s σ H Q I ?_⟩
  show tCons t tNil σ H fun vs H1 => ([V.ref f] = [V.ref f]) ∧ rSortD X.K false vs H1 Q
  have e0 : (fun vs H1 => ([V.ref f] = [V.ref f]) ∧ rSortD X.K false vs H1 Q) = fun vs H1 => rSortD X.K false vs H1 Q := by
    funext vs H1
    simp
  rw [e0]
  exact h
theorem pe_sortDR (F : Has X.prog X.w X.K X.mg X.base k x [pn] (spId X.K)) (hr : Room (k + 2) X.A) (hg : Gl X "sorted") (hm : X.mg "sorted" = none) (hgx : Gl X x) (he : PA X [e] (tCons t tNil)) {pb : Pos} {kb : Nat} (hdb : (x == ("__debug__" : Str)) = false := by decide)
    (hs : backTo pos (starEach [e] X.env) = (false, eval e X.env) :: backTo pos (starEach [] X.env) := by rfl) (hpl : (backTo pos (starEach [e] X.env)).any (·.1) = false := by rfl)
    (hall : (backToKw pos (keywordEach [⟨some "key", .Name x px, k1⟩, ⟨some "reverse", .Constant (.bool true) kb pb, k2⟩] X.env)).all (·.1.isSome) = true := by rfl) (hnone : (backToKw pos (keywordEach [⟨some "key", .Name x px, k1⟩, ⟨some "reverse", .Constant (.bool true) kb pb, k2⟩] X.env)).any (·.1.isNone) = false := by rfl) (hks : (backToKw pos (keywordEach [⟨some "key", .Name x px, k1⟩, ⟨some "reverse", .Constant (.bool true) kb pb, k2⟩] X.env)).filterMap (·.1) = [Str.ofString "key", Str.ofString "reverse"] := by rfl) :
    PE X (.Call (.Name "sorted" p) [e] [⟨some "key", .Name x px, k1⟩, ⟨some "reverse", .Constant (.bool true) kb pb, k2⟩] pos) (tSortD X.K true t) := by
  obtain ⟨f, fd, hmx, hk, F, hb, _⟩ := F.ex
  have hc : CallRK X (.builtin "sorted") [Str.ofString "key", Str.ofString "reverse"] (fun vs zs H Q => zs = [.ref f, .bl true] ∧ rSortD X.K true vs H Q) := by
    rintro pins s σ H vs zs us ws Q I r rz ⟨rfl, a, ys, rfl, hs, q⟩
    obtain rfl := Vals.ref1 r
    obtain ⟨w1, w2, rfl, e1, e2⟩ := vals2 rz
    obtain rfl : w1 = Value.ref f := e1
    obtain rfl : w2 = Value.bool true := e2
    exact sorted_def (b := true) F hb hr I hs (ksk_s2 _ _ _) (fun _ => ksk_l2 _ _ _) (fun x => ksk_t2 f x true) q
  have P1 := pe_callBK (p := p) (pos := pos) hc hg hm (by rfl) he (pk_cons (pe_glob (pos := px) (v := .ref f) hgx hmx rfl hdb) (pk_cons pe_bl pk_nil)) (by decide) (by decide) hs hpl hall hnone hks
  refine ⟨fun pins s σ H Q I h => P1.run pins s σ H Q I ?_⟩
  show tCons t tNil σ H fun vs H1 => ([V.ref f, V.bl true] = [V.ref f, V.bl true]) ∧ rSortD X.K true vs H1 Q
  have e0 : (fun vs H1 => ([V.ref f, V.bl true] = [V.ref f, V.bl true]) ∧ rSortD X.K true vs H1 Q) = fun vs H1 => rSortD X.K true vs H1 Q := by
    funext vs H1
    simp
  rw [e0]
  exact h
end
section
variable {K : PySem.W.Frag} {σ : L2.St} {H : Hp} {te : TE}
theorem er_sortD {b : Bool} {ys : List (List Nat)} (h : Er K te σ H (.l (vss (ys.map S)))) : Er K (tSortD K b te) σ H (.n (vss ((ordd b ys).map S))) := fun H1 e Q q =>
  h H1 e _ fun v H2 e2 ⟨a, ea, ha⟩ => ⟨a, ys, by rw [ea], ha, fun H3 p e3 hp => q _ _ ((e2.trans e3).trans (Ex.new hp)) ⟨p, rfl, upd_same⟩⟩
end
end Mi

set_option maxHeartbeats 2000000
namespace Mi
open PySem PySem.Spec PyProof.Rows L2 Evl
abbrev vsl (L : List (List Nat)) : List V := vss (L.map S)
theorem vsl_len (L : List (List Nat)) : (vsl L).length = L.length := by simp [vss]
theorem vsl_app (L : List (List Nat)) (l : List Nat) : vsl (L ++ [l]) = vsl L ++ [.str (S l)] := by
  rw [vsl, List.map_append, vss, List.map_append]
  rfl
theorem vsl_at {L : List (List Nat)} {i : Nat} {x : V} (h : (vsl L)[i]? = some x) : ∃ l, L[i]? = some l ∧ V.str (S l) = x := by
  rw [List.getElem?_map, List.getElem?_map] at h
  cases q : L[i]? with
  | none => rw [q] at h; cases h
  | some l => rw [q] at h; exact ⟨l, rfl, Option.some.inj h⟩
section
variable {K : PySem.W.Frag} {σ : L2.St} {H H0 H' : Hp} {te ta tb : TE} {t u : TT} {a b : Bool} {d d' : Dd} {D : Ends} {tu tw tz : TS} {x y : V}
theorem a_ifSetS {i : Nat} {c e : List Nat} (h : Et K t σ H b) (h1 : b = true → Er K te σ H (.s (S c))) (h2 : σ.set i (some (.str (S e))) = σ) (k : ∀ H1, Ex H H1 → tz D (σ.set i (some (.str (S (if b = true then c else e))))) H1) : tSeq (tIfS t (tAsg te (gName i)) tNext) tz D σ H :=
  a_ifAsg (x := .str (S (if b = true then c else e))) h (fun hb => by rw [if_pos hb]; exact h1 hb) (fun hb => by rw [if_neg (by rw [hb]; exact Bool.false_ne_true)]; exact h2) k
theorem ro_ixSS {L : List (List Nat)} {i : Int} (h0 : 0 ≤ i) (h1 : i < L.length) : Ro K (rIxL K) (.l (vsl L)) (.v (.int i)) (.v (.str (S (L.getD i.toNat [])))) := by
  refine ro_ixL h0 ?_
  have h2 : i.toNat < L.length := by omega
  rw [List.getElem?_map, List.getElem?_map, List.getD_eq_getElem?_getD, List.getElem?_eq_getElem h2]
  rfl
theorem ro_ixSN {L : List (List Nat)} {i : Int} (h0 : 0 ≤ i) (h1 : i < L.length) : Ro K (rIxL K) (.n (vsl L)) (.v (.int i)) (.v (.str (S (L.getD i.toNat [])))) := fun v w H1 a b => ro_ixSS h0 h1 v w H1 a.n2l b
theorem rc_lenLL {L : List (List Nat)} : Rc K (rLenS K) [.l (vsl L)] (.v (.int (L.length : Int))) := by
  have h := rc_lenT (K := K) (ns := L.map S)
  rw [List.length_map] at h
  exact h
theorem rc_lenLN {L : List (List Nat)} : Rc K (rLenS K) [.n (vsl L)] (.v (.int (L.length : Int))) := by
  have h := rc_lenTN (K := K) (ns := L.map S)
  rw [List.length_map] at h
  exact h
/-- [n] * k -/
theorem er_same {n : Int} {k : Nat} (h : Er K te σ H (.i n)) (hk : k ≤ 1000) : Er K (tOp rRep (tLst (tCons te tNil)) (tC (.int (k : Int)))) σ H (.n (vis (List.replicate k n))) := by
  have e : vis (List.replicate k n) = (List.replicate k [V.int n]).flatten := by
    rw [vis, List.map_replicate, List.flatten_replicate_singleton]
  rw [e]
  exact er_op (er_lst (vs := [.int n]) (era_cons h era_nil) (by simp)) er_c (ro_rep (by simp; omega) (by omega))
end
theorem getD_memL {α : Type} {l : List α} {k : Nat} {z : α} (h : k < l.length) : l.getD k z ∈ l := by
  rw [List.getD_eq_getElem?_getD, List.getElem?_eq_getElem h]
  exact List.getElem_mem h
theorem getD_sz {l : List Int} {k : Nat} (h : k < l.length) : l.getD k 0 = l[k] := by
  rw [List.getD_eq_getElem?_getD, List.getElem?_eq_getElem h]
  rfl
end Mi

set_option maxHeartbeats 2000000
namespace Mi
open PySem PySem.Spec PyProof.Rows L2 Evl
section
variable {K : PySem.W.Frag} {σ : L2.St} {H H0 H' : Hp} {te ta tb : TE} {t u : TT} {a b : Bool} {d d' : Dd} {D : Ends} {tu tw tz : TS} {x y : V}
/-- if c: x = e else: x = f, both of one kind -/
theorem a_ifElse {i : Nat} (h : Et K t σ H b) (h1 : b = true → Er K ta σ H d) (h2 : b = false → Er K tb σ H d) (k : ∀ v H1, Ex H H1 → Is K H1 d v → tz D (σ.set i (some v)) H1) : tSeq (tIfS t (tAsg ta (gName i)) (tAsg tb (gName i))) tz D σ H :=
  a_if h (fun hb H1 e1 => a_asg1 (D := { D with nx := tz D }) ((h1 hb).mono e1) fun v H2 e2 z => k v H2 (e1.trans e2) z) (fun hb H1 e1 => a_asg1 (D := { D with nx := tz D }) ((h2 hb).mono e1) fun v H2 e2 z => k v H2 (e1.trans e2) z)
/-- a loop over a tuple that stands at l -/
theorem b_forU {l : Addr} {xs : List V} {tl : TE} {j : Nat} (h : Er K tl σ H (.v (.ref l))) (hx : SqT K H l xs) (Pv : Nat → L2.St → Hp → Prop) (h0 : ∀ H1, Ex H H1 → Pv 0 σ H1) (hl : ∀ i σ' H', i ≤ xs.length → Pv i σ' H' → SqT K H' l xs)
    (hs : ∀ i x σ' H', xs[i]? = some x → Pv i σ' H' → tu { D with nx := Pv (i + 1), ct := Pv (i + 1), bk := tz D } (σ'.set j (some x)) H') (hd : ∀ σ' H', Pv xs.length σ' H' → tz D σ' H') : tSeq (tFor (iTup K tl) (gName j) tu) tz D σ H :=
  h H (Ex.refl H) _ fun v H1 e z => by
    have ez : v = .ref l := z
    subst ez
    exact ⟨l, rfl, ⟨xs, ex_t e hx⟩, for_tup (D := { D with nx := tz D }) Pv (h0 H1 e) hl hs hd⟩
/-- a place of a list that was made here -/
theorem er_pos {xs : List V} {n : Nat} (h : Er K te σ H (.n xs)) (hx : xs[n]? = some x) : Er K (tOp (rIxL K) te (tC (.int (n : Int)))) σ H (.v x) :=
  er_op h er_c (ro_ixN (by omega) (by rw [Int.toNat_natCast]; exact hx))
end
theorem zipIdx_range (l : List Nat) : l.zipIdx = (List.range l.length).map fun k => (l.getD k 0, k) := by
  refine List.ext_getElem (by simp) fun i h1 h2 => ?_
  simp at h1 h2 ⊢
  rw [List.getElem?_eq_getElem (by omega)]
  rfl
end Mi

set_option maxHeartbeats 2000000
namespace Mi
open PySem PySem.Spec PyProof.Rows L2 Evl
theorem isAll_at {K : PySem.W.Frag} {H : Hp} : ∀ {ds : List Dd} {vs : List V} {i : Nat} {v : V}, IsAll K H ds vs → vs[i]? = some v → ∃ d, ds[i]? = some d ∧ Is K H d v
  | [], _, i, v, h, e => by cases h; simp at e
  | d :: ds, _, 0, v, h, e => by
    cases h with
    | cons a b => exact ⟨d, rfl, Option.some.inj e ▸ a⟩
  | d :: ds, _, i + 1, v, h, e => by
    cases h with
    | cons a b => exact isAll_at (i := i) b e
section
variable {K : PySem.W.Frag} {σ : L2.St} {H H0 H' : Hp} {te ta tb tc : TE} {t u : TT} {tr : TA} {a b : Bool} {d e d1 d2 : Dd} {D : Ends} {tu tw tz : TS} {x y : V}
/-- a loop over a list that is written out, its items of any kind -/
theorem a_forD {dss : List Dd} {j : Nat} (h : Era K tr σ H dss) (hz : dss.length ≤ 100000) (Pv : Nat → L2.St → Hp → Prop) (h0 : ∀ H1, Ex H H1 → Pv 0 σ H1)
    (hs : ∀ H1, Ex H H1 → ∀ i d v σ' H', dss[i]? = some d → (∀ H2, Ex H1 H2 → Is K H2 d v) → Pv i σ' H' → Ex H1 H' → tu { D with nx := fun σ2 H2 => Pv (i + 1) σ2 H2 ∧ Ex H1 H2, ct := fun σ2 H2 => Pv (i + 1) σ2 H2 ∧ Ex H1 H2, bk := D.nx } (σ'.set j (some v)) H')
    (hd : ∀ σ' H', Pv dss.length σ' H' → D.nx σ' H') : tFor (iList K (tLst tr)) (gName j) tu D σ H :=
  h H (Ex.refl H) _ fun vs H1 e1 z => by
    have len := z.len
    refine ⟨sz_of (by omega), fun p hp => ⟨p, rfl, ⟨vs, sq_of upd_same⟩, ?_⟩⟩
    have e2 : Ex H1 (upd H1 p (.lst vs)) := Ex.new hp
    have hq : (upd H1 p (.lst vs)) p = some (.lst vs) := upd_same
    have z2 := z.mono e2
    refine for_list (xs := vs) (fun i σ' H' => Pv i σ' H' ∧ Ex (upd H1 p (.lst vs)) H') ⟨h0 _ (e1.trans e2), Ex.refl _⟩ (fun i σ' H' _ q => sq_of (q.2 p _ hq)) (fun i v σ' H' hv q => ?_) fun σ' H' q => hd σ' H' (by rw [len]; exact q.1)
    obtain ⟨d, hd', hi⟩ := isAll_at z2 hv
    exact hs _ (e1.trans e2) i d v σ' H' hd' (fun H2 e3 => hi.mono e3) q.1 q.2
/-- [a, b][i], a and b of any kind -/
theorem er_pickD {i : Int} (h1 : Er K ta σ H d1) (h2 : Er K tb σ H d2) (hc : Er K tc σ H (.i i)) (hi : i = 0 ∨ i = 1) : Er K (tOp (rIxL K) (tLst (tCons ta (tCons tb tNil))) tc) σ H (if i = 0 then d1 else d2) := fun H1 e Q q =>
  h1 H1 e _ fun v1 H2 e2 z1 => h2 H2 (e.trans e2) _ fun v2 H3 e3 z2 => ⟨sz_of (by simp), fun p hp => by
    have e4 : Ex H3 (upd H3 p (.lst [v1, v2])) := Ex.new hp
    have hq : (upd H3 p (.lst [v1, v2])) p = some (.lst [v1, v2]) := upd_same
    refine hc _ (((e.trans e2).trans e3).trans e4) _ fun v H4 e5 z => ?_
    have ez : v = .int i := z
    subst ez
    rcases hi with rfl | rfl
    · exact ⟨p, [v1, v2], 0, v1, rfl, rfl, sq_of (e5 p _ hq), rfl, q _ _ (((e2.trans e3).trans e4).trans e5) (((z1.mono e3).mono e4).mono e5)⟩
    · exact ⟨p, [v1, v2], 1, v2, rfl, rfl, sq_of (e5 p _ hq), rfl, q _ _ (((e2.trans e3).trans e4).trans e5) ((z2.mono e4).mono e5)⟩⟩
/-- if c: x = e, values of any kind -/
theorem a_ifSetD {i : Nat} {v : V} (h : Et K t σ H b) (h1 : b = true → Er K te σ H d) (h2 : σ.set i (some v) = σ) (hv : Is K H e v) (k : ∀ w H1, Ex H H1 → Is K H1 (if b = true then d else e) w → tz D (σ.set i (some w)) H1) : tSeq (tIfS t (tAsg te (gName i)) tNext) tz D σ H :=
  a_when h (fun hb H1 e1 => a_asg1 (D := { D with nx := tz D }) ((h1 hb).mono e1) fun w H2 e2 z => k w H2 (e1.trans e2) (by rw [if_pos hb]; exact z)) (fun hb H1 e1 => by
    have g := k v H1 e1 (by rw [if_neg (by rw [hb]; exact Bool.false_ne_true)]; exact hv.mono e1)
    rw [h2] at g
    exact g)
end
theorem fnR {P : Program} {w : World} {K : PySem.W.Frag} {mg : Str → Option Value} {base : Heap} {x : Str} {st : Stmt} {f0 : Addr} {fd : FuncData} {N ps : List Str} {k : Nat} {T : Type} {pre : T → Prop} {args : T → List Dd} {ret : T → Dd}
    (F : Fun K x x st f0 fd) (Sc : FnScope N ps (defScope st)) (hl : ∀ a, (args a).length = ps.length)
    (hbody : ∀ (f : Addr) (cdv : Value) (A : Around) (outer : List Env) (s : Shared) (H : Hp) (a : T) (vs : List V) (Q : VK) (E : XK), Room k (A.deeper (envOfC x (defScope st) s.heap.objs.size f cdv)) → pre a → IsAll K H (args a) vs → (∀ v H', Ex H H' → Is K H' (ret a) v → Q v H') →
      ∃ t, PSs (cxOf CX0 P w K mg base N x (defScope st) f cdv A outer s H E).nox (defBody st) t ∧ t { nx := fun _ H' => Q .non H', rt := Q } (start N vs) H) :
    FnOk P w K mg base CX0 (k + 1) f0 fd ps (spR K pre args ret) :=
  F.ok Sc (fun vs H Q E hsp => by
    obtain ⟨a, _, hv, _⟩ := hsp
    rw [← hv.len, hl]) (fun cdv A outer s H vs Q E hr hsp => by
    obtain ⟨a, hp, hv, hk⟩ := hsp
    exact hbody f0 cdv A outer s H a vs Q E hr hp hv hk)
end Mi

set_option maxHeartbeats 2000000
namespace Mi
open PySem PySem.Spec PyProof.Rows L2 Evl
/-! ### lists and tuples whose items are told one by one -/
section
variable {K : PySem.W.Frag} {H H' : Hp}
theorem isE_all : ∀ {ds : List Dd} {vs : List V}, IsE K H ds vs ↔ IsAll K H ds vs
  | [], vs => ⟨fun h => by rw [show vs = [] from h]; exact .nil, fun h => by cases h; rfl⟩
  | d :: ds, vs => ⟨fun h => by
      obtain ⟨x, r, rfl, a, b⟩ := h
      exact .cons a (isE_all.mp b), fun h => by
      cases h with
      | cons a b => exact ⟨_, _, rfl, a, isE_all.mpr b⟩⟩
theorem isE_len {ds : List Dd} {vs : List V} (h : IsE K H ds vs) : ds.length = vs.length := (isE_all.mp h).len
theorem isE_app : ∀ {as bs : List Dd} {us vs : List V}, IsE K H as us → IsE K H bs vs → IsE K H (as ++ bs) (us ++ vs)
  | [], _, us, _, h, g => by rw [show us = [] from h]; exact g
  | d :: ds, _, us, _, h, g => by
    obtain ⟨x, r, rfl, a, b⟩ := h
    exact ⟨x, _, rfl, a, isE_app b g⟩
theorem isE_take : ∀ {ds : List Dd} {vs : List V} (n : Nat), IsE K H ds vs → IsE K H (ds.take n) (vs.take n)
  | _, vs, 0, _ => by
    rw [List.take_zero, List.take_zero]
    rfl
  | [], vs, n + 1, h => by rw [show vs = [] from h]; rfl
  | d :: ds, vs, n + 1, h => by
    obtain ⟨x, r, rfl, a, b⟩ := h
    exact ⟨x, _, rfl, a, isE_take n b⟩
theorem isE_drop : ∀ {ds : List Dd} {vs : List V} (n : Nat), IsE K H ds vs → IsE K H (ds.drop n) (vs.drop n)
  | _, vs, 0, h => h
  | [], vs, n + 1, h => by rw [show vs = [] from h]; rfl
  | d :: ds, vs, n + 1, h => by
    obtain ⟨x, r, rfl, a, b⟩ := h
    exact isE_drop n b
theorem isE_at {ds : List Dd} {vs : List V} {i : Nat} {d : Dd} (h : IsE K H ds vs) (hd : ds[i]? = some d) : ∃ v, vs[i]? = some v ∧ Is K H d v := by
  have hl := isE_len h
  have hi : i < vs.length := by
    have := (List.getElem?_eq_some_iff.mp hd).1
    omega
  obtain ⟨d', e1, e2⟩ := isAll_at (isE_all.mp h) (List.getElem?_eq_getElem hi)
  rw [hd] at e1
  exact ⟨_, List.getElem?_eq_getElem hi, Option.some.inj e1 ▸ e2⟩
theorem isE_v : ∀ {xs : List V} {vs : List V}, IsE K H (xs.map Dd.v) vs ↔ vs = xs
  | [], vs => Iff.rfl
  | x :: xs, vs => ⟨fun h => by
      obtain ⟨y, r, rfl, a, b⟩ := h
      rw [isE_v.mp b, show y = x from a], fun h => by
      rw [h]
      exact ⟨x, xs, rfl, rfl, isE_v.mpr rfl⟩⟩
theorem Is.N2L {ds : List Dd} {x : V} (h : Is K H (.N ds) x) : Is K H (.L ds) x := by
  obtain ⟨p, vs, e, q, r⟩ := h
  exact ⟨p, vs, e, sq_of q, r⟩
theorem Is.n2N {xs : List V} {x : V} (h : Is K H (.n xs) x) : Is K H (.N (xs.map Dd.v)) x := by
  obtain ⟨p, e, q⟩ := h
  exact ⟨p, xs, e, q, isE_v.mpr rfl⟩
theorem Is.N2n {xs : List V} {x : V} (h : Is K H (.N (xs.map Dd.v)) x) : Is K H (.n xs) x := by
  obtain ⟨p, vs, e, q, r⟩ := h
  rw [isE_v.mp r] at q
  exact ⟨p, e, q⟩
theorem Is.L2l {xs : List V} {x : V} (h : Is K H (.L (xs.map Dd.v)) x) : Is K H (.l xs) x := by
  obtain ⟨p, vs, e, q, r⟩ := h
  rw [isE_v.mp r] at q
  exact ⟨p, e, q⟩
theorem Is.l2L {xs : List V} {x : V} (h : Is K H (.l xs) x) : Is K H (.L (xs.map Dd.v)) x := by
  obtain ⟨p, e, q⟩ := h
  exact ⟨p, xs, e, q, isE_v.mpr rfl⟩
theorem Is.U2u {xs : List V} {x : V} (h : Is K H (.U (xs.map Dd.v)) x) : Is K H (.u xs) x := by
  obtain ⟨p, vs, e, q, r⟩ := h
  rw [isE_v.mp r] at q
  exact ⟨p, e, q⟩
theorem Is.u2U {xs : List V} {x : V} (h : Is K H (.u xs) x) : Is K H (.U (xs.map Dd.v)) x := by
  obtain ⟨p, e, q⟩ := h
  exact ⟨p, xs, e, q, isE_v.mpr rfl⟩
end
section
variable {K : PySem.W.Frag} {σ : L2.St} {H H0 H' : Hp} {te ta tb tc : TE} {t u : TT} {tr : TA} {a b : Bool} {d e d1 d2 : Dd} {D : Ends} {tu tw tz : TS} {x y : V} {ds es : List Dd}
theorem Er.as (h : Er K te σ H d) (f : ∀ H1 v, Is K H1 d v → Is K H1 e v) : Er K te σ H e := fun H1 x Q q => h H1 x Q fun v H2 e2 z => q v H2 e2 (f H2 v z)
theorem Er.N2L (h : Er K te σ H (.N ds)) : Er K te σ H (.L ds) := h.as fun _ _ z => z.N2L
theorem er_N (h : Era K tr σ H ds) (hl : ds.length ≤ 100000) : Er K (tLst tr) σ H (.N ds) := fun H1 e1 _ q =>
  h H1 e1 _ fun ws H2 e2 z => ⟨sz_of (by rw [← z.len]; exact hl), fun p hp => q _ _ (e2.trans (Ex.new hp)) ⟨p, ws, rfl, upd_same, isE_all.mpr (z.mono (Ex.new hp))⟩⟩
theorem er_U (h : Era K tr σ H ds) (hl : ds.length ≤ 100000) : Er K (tTup tr) σ H (.U ds) := fun H1 e1 _ q =>
  h H1 e1 _ fun ws H2 e2 z => ⟨sz_of (by rw [← z.len]; exact hl), fun p hp => q _ _ (e2.trans (Ex.new hp)) ⟨p, ws, rfl, st_of upd_same, isE_all.mpr (z.mono (Ex.new hp))⟩⟩
theorem ro_ixLd {i : Nat} (hd : ds[i]? = some d) : Ro K (rIxL K) (.L ds) (.i (i : Int)) d := by
  rintro _ _ H1 ⟨p, vs, rfl, hp, hE⟩ rfl Q q
  obtain ⟨v, hv, z⟩ := isE_at hE hd
  exact ⟨p, vs, (i : Int), v, rfl, rfl, hp, atI_nat hv, q _ H1 (Ex.refl H1) z⟩
theorem ro_ixNd {i : Nat} (hd : ds[i]? = some d) : Ro K (rIxL K) (.N ds) (.i (i : Int)) d := fun v w H1 a b => ro_ixLd hd v w H1 a.N2L b
theorem ro_ixUd {i : Nat} (hd : ds[i]? = some d) : Ro K (rIxT K) (.U ds) (.i (i : Int)) d := by
  rintro _ _ H1 ⟨p, vs, rfl, hp, hE⟩ rfl Q q
  obtain ⟨v, hv, z⟩ := isE_at hE hd
  exact ⟨p, vs, (i : Int), v, rfl, rfl, hp, atI_nat hv, q _ H1 (Ex.refl H1) z⟩
theorem rc_lenLd : Rc K (rLenS K) [.L ds] (.i (ds.length : Int)) := by
  rintro _ H1 (_ | ⟨⟨p, vs, rfl, hp, hE⟩, _ | _⟩) Q q
  exact ⟨p, vs, rfl, .inl hp, q _ H1 (Ex.refl H1) (by rw [isE_len hE]; rfl)⟩
theorem rc_lenNd : Rc K (rLenS K) [.N ds] (.i (ds.length : Int)) := fun vs H1 h Q q => by
  cases h with
  | cons a b => exact rc_lenLd _ H1 (.cons a.N2L b) Q q
theorem rc_lenUd : Rc K (rLenS K) [.U ds] (.i (ds.length : Int)) := by
  rintro _ H1 (_ | ⟨⟨p, vs, rfl, hp, hE⟩, _ | _⟩) Q q
  exact ⟨p, vs, rfl, .inr hp, q _ H1 (Ex.refl H1) (by rw [isE_len hE]; rfl)⟩
theorem ro_catd (h : ds.length + es.length ≤ 100000) : Ro K rCat (.N ds) (.N es) (.N (ds ++ es)) := by
  rintro _ _ H1 ⟨p, us, rfl, hp, h1⟩ ⟨p', vs, rfl, hp', h2⟩ Q q
  exact ⟨p, p', us, vs, rfl, rfl, hp, hp', sz_of (by rw [← isE_len h1, ← isE_len h2]; exact h), fun l hl => q _ _ (Ex.new hl) ⟨l, _, rfl, upd_same, isE_app (IsE.mono (Ex.new hl) h1) (IsE.mono (Ex.new hl) h2)⟩⟩
theorem rc_listLd : Rc K (rListS K) [.L ds] (.N ds) := by
  rintro _ H1 (_ | ⟨⟨p, vs, rfl, hp, hE⟩, _ | _⟩) Q q
  exact ⟨p, vs, rfl, .inl hp, fun l hl => q _ _ (Ex.new hl) ⟨l, vs, rfl, upd_same, IsE.mono (Ex.new hl) hE⟩⟩
theorem rc_listUd : Rc K (rListS K) [.U ds] (.N ds) := by
  rintro _ H1 (_ | ⟨⟨p, vs, rfl, hp, hE⟩, _ | _⟩) Q q
  exact ⟨p, vs, rfl, .inr hp, fun l hl => q _ _ (Ex.new hl) ⟨l, vs, rfl, upd_same, IsE.mono (Ex.new hl) hE⟩⟩
theorem rc_tupLd : Rc K (rTupS K) [.L ds] (.U ds) := by
  rintro _ H1 (_ | ⟨⟨p, vs, rfl, hp, hE⟩, _ | _⟩) Q q
  exact ⟨p, vs, rfl, .inl ⟨hp, fun l hl => q _ _ (Ex.new hl) ⟨l, vs, rfl, st_of upd_same, IsE.mono (Ex.new hl) hE⟩⟩⟩
theorem rc_tupNd : Rc K (rTupS K) [.N ds] (.U ds) := fun vs H1 h Q q => by
  cases h with
  | cons a b => exact rc_tupLd _ H1 (.cons a.N2L b) Q q
theorem rc_tupUd : Rc K (rTupS K) [.U ds] (.U ds) := by
  rintro _ H1 (_ | ⟨⟨p, vs, rfl, hp, hE⟩, _ | _⟩) Q q
  exact ⟨p, vs, rfl, .inr ⟨hp, q _ H1 (Ex.refl H1) ⟨p, vs, rfl, hp, hE⟩⟩⟩
theorem er_slLTo {n : Nat} (h : Er K te σ H (.L ds)) (h2 : Er K tb σ H (.i (n : Int))) : Er K (tSl (rSlL K) te tNoPart (tPart tb)) σ H (.N (ds.take n)) := fun H1 e1 _ q =>
  h H1 e1 _ fun v H2 e2 ⟨p, vs, ep, hp, hE⟩ => eo_non H2 (e1.trans e2) _ fun H3 e3 => eo_of h2 H3 ((e1.trans e2).trans e3) _ fun H4 e4 => by
    subst ep
    refine ⟨p, vs, rfl, ex_l (e3.trans e4) hp, fun l hl => q _ _ (((e2.trans e3).trans e4).trans (Ex.new hl)) ⟨l, _, rfl, upd_same, ?_⟩⟩
    have ec : cutV vs none (some (n : Int)) = vs.take n := by
      unfold cutV
      rw [HT.sIx_none, HT.sIx_nat]
      rw [List.drop_zero, Nat.sub_zero, List.take_eq_take_iff]
      omega
    rw [ec]
    exact isE_take n (IsE.mono ((e3.trans e4).trans (Ex.new hl)) hE)
theorem er_slLFrom {n : Nat} (h : Er K te σ H (.L ds)) (h2 : Er K tb σ H (.i (n : Int))) : Er K (tSl (rSlL K) te (tPart tb) tNoPart) σ H (.N (ds.drop n)) := fun H1 e1 _ q =>
  h H1 e1 _ fun v H2 e2 ⟨p, vs, ep, hp, hE⟩ => eo_of h2 H2 (e1.trans e2) _ fun H3 e3 => eo_non H3 ((e1.trans e2).trans e3) _ fun H4 e4 => by
    subst ep
    refine ⟨p, vs, rfl, ex_l (e3.trans e4) hp, fun l hl => q _ _ (((e2.trans e3).trans e4).trans (Ex.new hl)) ⟨l, _, rfl, upd_same, ?_⟩⟩
    rw [cutV_from]
    exact isE_drop n (IsE.mono ((e3.trans e4).trans (Ex.new hl)) hE)
end
end Mi

set_option maxHeartbeats 2000000
namespace Mi
open PySem PySem.Spec PyProof.Rows L2 Evl
/-! ### a view G of the heap A: what is not changed any more; lists that still grow stand outside of it -/
structure Step (G A G' A' : Hp) : Prop where
  g : Ex G G'
  v : Ex G' A'
  a : Ex A A'
  f : ∀ b, A b ≠ none → G b = none → G' b = none
theorem ex_out {G A : Hp} (e : Ex G A) {b : Addr} (h : A b = none) : G b = none := by
  cases q : G b with
  | none => rfl
  | some o => rw [e b o q] at h; cases h
theorem Step.refl {G A : Hp} (e : Ex G A) : Step G A G A := ⟨Ex.refl G, e, Ex.refl A, fun _ _ h => h⟩
theorem Step.trans {G A G1 A1 G2 A2 : Hp} (s : Step G A G1 A1) (t : Step G1 A1 G2 A2) : Step G A G2 A2 :=
  ⟨s.g.trans t.g, t.v, s.a.trans t.a, fun b h h2 => by
    refine t.f b ?_ (s.f b h h2)
    cases q : A b with
    | none => exact absurd q h
    | some o => rw [s.a b o q]; simp⟩
/-- only the heap went on -/
theorem Step.on {G A A' : Hp} (e : Ex G A) (a : Ex A A') : Step G A G A' := ⟨Ex.refl G, e.trans a, a, fun _ _ h => h⟩
theorem ex_both {G A : Hp} {p : Addr} {o : HO} (e : Ex G A) (hp : G p = none) : Ex (upd G p o) (upd A p o) := fun b x hb => by
  by_cases q : b = p
  · rw [q, upd_same] at hb ⊢
    exact hb
  · rw [upd_ne q] at hb ⊢
    exact e b x hb
/-- a new object, seen at once -/
theorem Step.new {G A : Hp} {p : Addr} {o : HO} (e : Ex G A) (hp : A p = none) : Step G A (upd G p o) (upd A p o) := by
  have hg := ex_out e hp
  refine ⟨Ex.new hg, ex_both e hg, Ex.new hp, fun b h h2 => ?_⟩
  have hb : b ≠ p := fun z => h (by rw [z]; exact hp)
  rw [upd_ne hb]
  exact h2
/-- a list of ours is done: from here on it is seen -/
theorem Step.seal {G0 A0 G A : Hp} {p : Addr} {o : HO} (s : Step G0 A0 G A) (h0 : A0 p = none) (hg : G p = none) (ha : A p = some o) : Step G0 A0 (upd G p o) A := by
  refine ⟨s.g.trans (Ex.new hg), fun b x hb => ?_, s.a, fun b h h2 => ?_⟩
  · by_cases q : b = p
    · rw [q, upd_same] at hb
      rw [q, ha]
      exact hb
    · rw [upd_ne q] at hb
      exact s.v b x hb
  · have hb : b ≠ p := fun z => h (by rw [z]; exact h0)
    rw [upd_ne hb]
    exact s.f b h h2
/-- a list of ours grows -/
theorem Step.grow {G0 A0 G A : Hp} {p : Addr} {o : HO} (s : Step G0 A0 G A) (h0 : A0 p = none) (hg : G p = none) : Step G0 A0 G (upd A p o) :=
  ⟨s.g, s.v.mut hg, s.a.mut h0, s.f⟩
def Ef (K : PySem.W.Frag) (te : TE) (σ : L2.St) (G : Hp) (d : Dd) : Prop := ∀ G1 A, Ex G G1 → Ex G1 A → ∀ Q : VK, (∀ v G' A', Step G1 A G' A' → Is K G' d v → Q v A') → te σ A Q
def Efa (K : PySem.W.Frag) (ta : TA) (σ : L2.St) (G : Hp) (ds : List Dd) : Prop := ∀ G1 A, Ex G G1 → Ex G1 A → ∀ Q : List V → Hp → Prop, (∀ vs G' A', Step G1 A G' A' → IsAll K G' ds vs → Q vs A') → ta σ A Q
def Rof (K : PySem.W.Frag) (r : R2) (d1 d2 d : Dd) : Prop := ∀ x y G A, Ex G A → Is K G d1 x → Is K G d2 y → ∀ Q : VK, (∀ v G' A', Step G A G' A' → Is K G' d v → Q v A') → r x y A Q
def Rcf (K : PySem.W.Frag) (r : List V → Hp → VK → Prop) (ds : List Dd) (d : Dd) : Prop := ∀ vs G A, Ex G A → IsAll K G ds vs → ∀ Q : VK, (∀ v G' A', Step G A G' A' → Is K G' d v → Q v A') → r vs A Q
section
variable {K : PySem.W.Frag} {σ : L2.St} {G G0 A A' : Hp} {te ta tb tc : TE} {t u : TT} {tr : TA} {d d1 d2 d' : Dd} {x y : V} {r : R2} {ds es : List Dd} {b : Bool}
theorem Ef.mono (e : Ex G0 G) (h : Ef K te σ G0 d) : Ef K te σ G d := fun G1 A e1 e2 Q q => h G1 A (e.trans e1) e2 Q q
theorem Ef.to (h : Ef K te σ G d) (e : d = d') : Ef K te σ G d' := e ▸ h
theorem Ef.as (h : Ef K te σ G d) (f : ∀ H v, Is K H d v → Is K H d' v) : Ef K te σ G d' := fun G1 A e1 e2 Q q => h G1 A e1 e2 Q fun v G' A' s z => q v G' A' s (f G' v z)
theorem Ef.er (h : Ef K te σ G d) : Er K te σ G d := fun H1 e Q q => h H1 H1 e (Ex.refl H1) Q fun v G' A' s z => q v A' s.a (z.mono s.v)
/-- a flat value is seen everywhere -/
theorem ef_flat (h : Er K te σ G (.v x)) : Ef K te σ G (.v x) := fun G1 A e1 e2 Q q => h A (e1.trans e2) Q fun v H2 e z => q v G1 H2 (.on e2 e) z
theorem ef_var {i : Nat} (h : σ[i]? = some (some x)) (hd : Is K G d x) : Ef K (tVar i) σ G d := fun G1 A e1 e2 Q q => ⟨x, h, q x G1 A (.refl e2) (hd.mono e1)⟩
theorem efa_nil : Efa K tNil σ G [] := fun G1 A e1 e2 Q q => q [] G1 A (.refl e2) .nil
theorem efa_cons (h : Ef K ta σ G d) (hr : Efa K tr σ G ds) : Efa K (tCons ta tr) σ G (d :: ds) := fun G1 A e1 e2 Q q =>
  h G1 A e1 e2 _ fun v G2 A2 s z => hr G2 A2 (e1.trans s.g) s.v _ fun vs G3 A3 s3 z3 => q _ G3 A3 (s.trans s3) (.cons (z.mono s3.g) z3)
theorem ef_op (ha : Ef K ta σ G d1) (hb : Ef K tb σ G d2) (hr : Rof K r d1 d2 d) : Ef K (tOp r ta tb) σ G d := fun G1 A e1 e2 Q q =>
  ha G1 A e1 e2 _ fun v1 G2 A2 s z => hb G2 A2 (e1.trans s.g) s.v _ fun v2 G3 A3 s3 z3 => hr v1 v2 G3 A3 s3.v (z.mono s3.g) z3 Q fun v G4 A4 s4 z4 => q v G4 A4 ((s.trans s3).trans s4) z4
theorem ef_cb {rc : List V → Hp → VK → Prop} (h : Efa K tr σ G ds) (hr : Rcf K rc ds d) : Ef K (tCB rc tr) σ G d := fun G1 A e1 e2 Q q =>
  h G1 A e1 e2 _ fun vs G2 A2 s z => hr vs G2 A2 s.v z Q fun v G3 A3 s3 z3 => q v G3 A3 (s.trans s3) z3
theorem ef_N (h : Efa K tr σ G ds) (hl : ds.length ≤ 100000) : Ef K (tLst tr) σ G (.N ds) := fun G1 A e1 e2 Q q =>
  h G1 A e1 e2 _ fun ws G2 A2 s z => ⟨sz_of (by rw [← z.len]; exact hl), fun p hp => q _ _ _ (s.trans (.new s.v hp)) ⟨p, ws, rfl, upd_same, isE_all.mpr (z.mono (Ex.new (ex_out s.v hp)))⟩⟩
theorem ef_U (h : Efa K tr σ G ds) (hl : ds.length ≤ 100000) : Ef K (tTup tr) σ G (.U ds) := fun G1 A e1 e2 Q q =>
  h G1 A e1 e2 _ fun ws G2 A2 s z => ⟨sz_of (by rw [← z.len]; exact hl), fun p hp => q _ _ _ (s.trans (.new s.v hp)) ⟨p, ws, rfl, st_of upd_same, isE_all.mpr (z.mono (Ex.new (ex_out s.v hp)))⟩⟩
theorem rf_ixL {i : Nat} (hd : ds[i]? = some d) : Rof K (rIxL K) (.L ds) (.i (i : Int)) d := by
  rintro _ _ G A e ⟨p, vs, rfl, hp, hE⟩ rfl Q q
  obtain ⟨v, hv, z⟩ := isE_at hE hd
  exact ⟨p, vs, (i : Int), v, rfl, rfl, ex_l e hp, atI_nat hv, q _ G A (.refl e) z⟩
theorem rf_ixN {i : Nat} (hd : ds[i]? = some d) : Rof K (rIxL K) (.N ds) (.i (i : Int)) d := fun v w G A e a b => rf_ixL hd v w G A e a.N2L b
theorem rf_ixU {i : Nat} (hd : ds[i]? = some d) : Rof K (rIxT K) (.U ds) (.i (i : Int)) d := by
  rintro _ _ G A e ⟨p, vs, rfl, hp, hE⟩ rfl Q q
  obtain ⟨v, hv, z⟩ := isE_at hE hd
  exact ⟨p, vs, (i : Int), v, rfl, rfl, ex_t e hp, atI_nat hv, q _ G A (.refl e) z⟩
theorem rf_cat (h : ds.length + es.length ≤ 100000) : Rof K rCat (.N ds) (.N es) (.N (ds ++ es)) := by
  rintro _ _ G A e ⟨p, us, rfl, hp, h1⟩ ⟨p', vs, rfl, hp', h2⟩ Q q
  exact ⟨p, p', us, vs, rfl, rfl, e p _ hp, e p' _ hp', sz_of (by rw [← isE_len h1, ← isE_len h2]; exact h), fun l hl => q _ _ _ (.new e hl) ⟨l, _, rfl, upd_same, isE_app (IsE.mono (Ex.new (ex_out e hl)) h1) (IsE.mono (Ex.new (ex_out e hl)) h2)⟩⟩
theorem rf_listL : Rcf K (rListS K) [.L ds] (.N ds) := by
  rintro _ G A e (_ | ⟨⟨p, vs, rfl, hp, hE⟩, _ | _⟩) Q q
  exact ⟨p, vs, rfl, .inl (ex_l e hp), fun l hl => q _ _ _ (.new e hl) ⟨l, vs, rfl, upd_same, IsE.mono (Ex.new (ex_out e hl)) hE⟩⟩
theorem rf_listU : Rcf K (rListS K) [.U ds] (.N ds) := by
  rintro _ G A e (_ | ⟨⟨p, vs, rfl, hp, hE⟩, _ | _⟩) Q q
  exact ⟨p, vs, rfl, .inr (ex_t e hp), fun l hl => q _ _ _ (.new e hl) ⟨l, vs, rfl, upd_same, IsE.mono (Ex.new (ex_out e hl)) hE⟩⟩
theorem rf_tupL : Rcf K (rTupS K) [.L ds] (.U ds) := by
  rintro _ G A e (_ | ⟨⟨p, vs, rfl, hp, hE⟩, _ | _⟩) Q q
  exact ⟨p, vs, rfl, .inl ⟨ex_l e hp, fun l hl => q _ _ _ (.new e hl) ⟨l, vs, rfl, st_of upd_same, IsE.mono (Ex.new (ex_out e hl)) hE⟩⟩⟩
theorem rf_tupN : Rcf K (rTupS K) [.N ds] (.U ds) := fun vs G A e h Q q => by
  cases h with
  | cons a b => exact rf_tupL _ G A e (.cons a.N2L b) Q q
theorem rf_tupU : Rcf K (rTupS K) [.U ds] (.U ds) := by
  rintro _ G A e (_ | ⟨⟨p, vs, rfl, hp, hE⟩, _ | _⟩) Q q
  exact ⟨p, vs, rfl, .inr ⟨ex_t e hp, q _ G A (.refl e) ⟨p, vs, rfl, hp, hE⟩⟩⟩
/-- calls of the text's own defs -/
def spF (K : PySem.W.Frag) {T : Type} (pre : T → Prop) (args : T → List Dd) (ret : T → Dd) : Sp := fun vs A Q _ => ∃ a : T, pre a ∧ ∃ G, Ex G A ∧ IsAll K G (args a) vs ∧ ∀ v G' A', Step G A G' A' → Is K G' (ret a) v → Q v A'
theorem ef_call {T : Type} {pre : T → Prop} {args : T → List Dd} {ret : T → Dd} {E : XK} (a : T) (h : Efa K tr σ G ds) (hd : ds = args a) (hp : pre a) : Ef K (tCall (spF K pre args ret) [] E tr) σ G (ret a) := fun G1 A e1 e2 Q q =>
  h G1 A e1 e2 _ fun vs G2 A2 s z => by
    rw [List.append_nil]
    exact ⟨a, hp, G2, s.v, hd ▸ z, fun v G3 A3 s3 z3 => q v G3 A3 (s.trans s3) z3⟩
/-- what is told of views holds of heaps -/
theorem spF_of {T : Type} {pre : T → Prop} {args : T → List Dd} {ret : T → Dd} : ∀ vs H Q E, spR K pre args ret vs H Q E → spF K pre args ret vs H Q E := by
  rintro vs H Q E ⟨a, hp, hv, hk⟩
  exact ⟨a, hp, H, Ex.refl H, hv, fun v G' A' s z => hk v A' s.a (z.mono s.v)⟩
theorem ef_if {b : Bool} (h : ∀ A, Ex G A → Et K t σ A b) (h1 : b = true → Ef K ta σ G d) (h2 : b = false → Ef K tb σ G d) : Ef K (tIf t ta tb) σ G d := fun G1 A e1 e2 Q q =>
  h A (e1.trans e2) A (Ex.refl A) _ fun A2 ea => by
    cases b with
    | true => exact h1 rfl G1 A2 e1 (e2.trans ea) Q fun v G' A' s z => q v G' A' ((Step.on e2 ea).trans s) z
    | false => exact h2 rfl G1 A2 e1 (e2.trans ea) Q fun v G' A' s z => q v G' A' ((Step.on e2 ea).trans s) z
end
end Mi

set_option maxHeartbeats 2000000
namespace Mi
open PySem PySem.Spec PyProof.Rows L2 Evl
/-! ### what is walked, seen from a view -/
def Wk (K : PySem.W.Frag) (J : It) (G2 : Hp) (ds : List Dd) : Prop := ∀ i G' A', Ex G2 G' → Ex G' A' → (∀ d, ds[i]? = some d → J.go i A' ∧ ∀ v A'', J.yld i A' v A'' → ∃ G'', Step G' A' G'' A'' ∧ Is K G'' d v) ∧ (i = ds.length → J.stop i A')
def Itf (K : PySem.W.Frag) (wi : TI) (σ : L2.St) (G : Hp) (ds : List Dd) : Prop := ∀ G1 A, Ex G G1 → Ex G1 A → ∀ R, (∀ J G2 A2, Step G1 A G2 A2 → Wk K J G2 ds → R J A2) → wi σ A R
section
variable {K : PySem.W.Frag} {σ : L2.St} {G G0 A A' : Hp} {te tl tb : TE} {t : TT} {ta : TA} {wi : TI} {g : TG} {d e d1 d2 : Dd} {D : Ends} {tu tz : TS} {v x : V} {ds es : List Dd} {b : Bool}
theorem if_list (h : Ef K tl σ G (.L ds)) : Itf K (iList K tl) σ G ds := fun G1 A e1 e2 R r =>
  h G1 A e1 e2 _ fun v G2 A2 s ⟨p, vs, ep, hp, hE⟩ => by
    subst ep
    refine ⟨p, rfl, ⟨vs, ex_l s.v hp⟩, r _ G2 A2 s fun i G' A' e3 e4 => ⟨fun d hd => ?_, fun hi => ⟨vs, ex_l (e3.trans e4) hp, by rw [← isE_len hE]; omega⟩⟩⟩
    obtain ⟨y, hy, z⟩ := isE_at hE hd
    refine ⟨⟨vs, y, ex_l (e3.trans e4) hp, hy⟩, fun v A'' hyl => ?_⟩
    obtain ⟨rfl, hall⟩ := hyl
    have ev := (hall vs (ex_l (e3.trans e4) hp)).symm.trans hy
    rw [Option.some.inj ev]
    exact ⟨G', .refl e4, z.mono e3⟩
theorem if_tup (h : Ef K tl σ G (.U ds)) : Itf K (iTup K tl) σ G ds := fun G1 A e1 e2 R r =>
  h G1 A e1 e2 _ fun v G2 A2 s ⟨p, vs, ep, hp, hE⟩ => by
    subst ep
    refine ⟨p, rfl, ⟨vs, ex_t s.v hp⟩, r _ G2 A2 s fun i G' A' e3 e4 => ⟨fun d hd => ?_, fun hi => ⟨vs, ex_t (e3.trans e4) hp, by rw [← isE_len hE]; omega⟩⟩⟩
    obtain ⟨y, hy, z⟩ := isE_at hE hd
    refine ⟨⟨vs, y, ex_t (e3.trans e4) hp, hy⟩, fun v A'' hyl => ?_⟩
    obtain ⟨rfl, hall⟩ := hyl
    have ev := (hall vs (ex_t (e3.trans e4) hp)).symm.trans hy
    rw [Option.some.inj ev]
    exact ⟨G', .refl e4, z.mono e3⟩
theorem if_range {n : Nat} (h : Era K ta σ G [.i (n : Int)]) (hn : n ≤ 100000) : Itf K (iRng1 ta) σ G ((List.range n).map fun i : Nat => Dd.i (i : Int)) := fun G1 A e1 e2 R r =>
  h A (e1.trans e2) _ fun vs A2 ea z => by
    rcases z with _ | ⟨rfl, _ | _⟩
    refine ⟨(n : Int), rfl, by omega, by omega, r _ G1 A2 (.on e2 ea) fun i G' A' e3 e4 => ⟨fun d hd => ?_, fun hi => ?_⟩⟩
    · have hi : i < n := by
        have := (List.getElem?_eq_some_iff.mp hd).1
        simpa using this
      rw [List.getElem?_map, List.getElem?_range hi] at hd
      have ed := Option.some.inj hd
      refine ⟨show i < (n : Int).toNat by omega, fun v A'' hyl => ?_⟩
      obtain ⟨rfl, rfl⟩ := hyl
      refine ⟨G', .refl e4, ?_⟩
      rw [← ed]
      show V.int (0 + (i : Int)) = V.int (i : Int)
      rw [Int.zero_add]
    · show (n : Int).toNat ≤ i
      rw [List.length_map, List.length_range] at hi
      omega
theorem if_text {z : List Nat} (h : Er K tl σ G (.s (S z))) : Itf K (iStr tl) σ G (z.map fun c => Dd.s (S [c])) := fun G1 A e1 e2 R r =>
  h A (e1.trans e2) _ fun v A2 ea ev => by
    refine ⟨S z, ev, r _ G1 A2 (.on e2 ea) fun i G' A' e3 e4 => ⟨fun d hd => ?_, fun hi => ?_⟩⟩
    · rw [List.getElem?_map] at hd
      cases hc : z[i]? with
      | none => rw [hc] at hd; cases hd
      | some c =>
        rw [hc] at hd
        have ed := Option.some.inj hd
        have hi := (List.getElem?_eq_some_iff.mp hc).1
        refine ⟨show i < (S z).cps.size by rw [S_size]; exact hi, fun v A'' hyl => ?_⟩
        obtain ⟨rfl, c', hc', rfl⟩ := hyl
        rw [S_at, hc] at hc'
        rw [← ed, ← Option.some.inj hc']
        exact ⟨G', .refl e4, rfl⟩
    · show (S z).cps.size ≤ i
      rw [S_size]
      rw [List.length_map] at hi
      omega
theorem if_pairs {ps : List (V × V)} {wi : TI} (h : ∀ A, Ex G A → ∀ R, (∀ A2, Ex A A2 → R (ItP ps) A2) → wi σ A R) : Itf K wi σ G (ps.map fun p => Dd.U [.v p.1, .v p.2]) := fun G1 A e1 e2 R r =>
  h A (e1.trans e2) R fun A2 ea => r _ G1 A2 (.on e2 ea) fun i G' A' e3 e4 => ⟨fun d hd => by
    rw [List.getElem?_map] at hd
    cases hc : ps[i]? with
    | none => rw [hc] at hd; cases hd
    | some p =>
      rw [hc] at hd
      have ed := Option.some.inj hd
      refine ⟨(List.getElem?_eq_some_iff.mp hc).1, fun v A'' hyl => ?_⟩
      obtain ⟨T, x, y, rfl, hT, rfl, hxy⟩ := hyl
      rw [hc] at hxy
      have ep := Option.some.inj hxy
      rw [← ed, ep]
      exact ⟨_, .new e4 hT, T, [x, y], rfl, st_of upd_same, x, [y], rfl, rfl, y, [], rfl, rfl, rfl⟩, fun hi => by
    rw [List.length_map] at hi
    exact hi⟩
theorem if_zipS {a b : List Nat} (h : Era K ta σ G [.s (S a), .s (S b)]) : Itf K (iZipS ta) σ G ((a.zip b).map fun p => Dd.U [.s (S [p.1]), .s (S [p.2])]) := by
  have e : (a.zip b).map (fun p => Dd.U [.s (S [p.1]), .s (S [p.2])]) = (zipS (S a) (S b)).map fun p => Dd.U [.v p.1, .v p.2] := by
    unfold zipS
    rw [List.map_map]
    rfl
  rw [e]
  exact if_pairs fun A e1 R r => h A e1 _ fun vs A2 ea z => by
    rcases z with _ | ⟨rfl, _ | ⟨rfl, _ | _⟩⟩
    exact ⟨S a, S b, rfl, r A2 ea⟩
/-- a loop over what is walked -/
theorem f_for (h : Itf K wi σ G ds) (hA : Ex G A) (Pv : Nat → L2.St → Hp → Hp → Prop) (h0 : ∀ G1 A1, Step G A G1 A1 → Pv 0 σ G1 A1)
    (hs : ∀ G1, Ex G G1 → ∀ i d v σ' G' A' G2 A2, ds[i]? = some d → Pv i σ' G' A' → Ex G1 G' → Ex G' A' → Step G' A' G2 A2 → Is K G2 d v → g v σ' A2 fun σ2 A3 => tu { D with nx := fun σ3 A4 => ∃ G4, Pv (i + 1) σ3 G4 A4 ∧ Ex G1 G4 ∧ Ex G4 A4, ct := fun σ3 A4 => ∃ G4, Pv (i + 1) σ3 G4 A4 ∧ Ex G1 G4 ∧ Ex G4 A4, bk := D.nx } σ2 A3)
    (hd : ∀ σ' G' A', Ex G G' → Ex G' A' → Pv ds.length σ' G' A' → D.nx σ' A') : tFor wi g tu D σ A :=
  h G A (Ex.refl G) hA _ fun J G1 A1 s hw => by
    refine ⟨fun i m σ' A' => m = ds.length - i ∧ i ≤ ds.length ∧ ∃ G', Pv i σ' G' A' ∧ Ex G1 G' ∧ Ex G' A', ⟨_, rfl, Nat.zero_le _, G1, h0 G1 A1 s, Ex.refl G1, s.v⟩, ?_⟩
    rintro i m σ' A' ⟨rfl, hi, G', p, eg, ea⟩
    by_cases hlt : i < ds.length
    · have hd' : ds[i]? = some ds[i] := List.getElem?_eq_getElem hlt
      obtain ⟨go, yl⟩ := (hw i G' A' eg ea).1 _ hd'
      refine .inr ⟨go, fun σ3 A4 => ∃ G4, Pv (i + 1) σ3 G4 A4 ∧ Ex G1 G4 ∧ Ex G4 A4, fun σ3 A4 q => ⟨ds.length - (i + 1), by omega, rfl, hlt, q⟩, fun v A'' y => ?_⟩
      obtain ⟨G2, s2, z⟩ := yl v A'' y
      exact hs G1 s.g i _ v σ' G' A' G2 A'' hd' p eg ea s2 z
    · have e : i = ds.length := by omega
      subst e
      exact .inl ⟨(hw _ G' A' eg ea).2 rfl, hd σ' G' A' (s.g.trans eg) ea p⟩
theorem b_for (h : Itf K wi σ G ds) (hA : Ex G A) (Pv : Nat → L2.St → Hp → Hp → Prop) (h0 : ∀ G1 A1, Step G A G1 A1 → Pv 0 σ G1 A1)
    (hs : ∀ G1, Ex G G1 → ∀ i d v σ' G' A' G2 A2, ds[i]? = some d → Pv i σ' G' A' → Ex G1 G' → Ex G' A' → Step G' A' G2 A2 → Is K G2 d v → g v σ' A2 fun σ2 A3 => tu { D with nx := fun σ3 A4 => ∃ G4, Pv (i + 1) σ3 G4 A4 ∧ Ex G1 G4 ∧ Ex G4 A4, ct := fun σ3 A4 => ∃ G4, Pv (i + 1) σ3 G4 A4 ∧ Ex G1 G4 ∧ Ex G4 A4, bk := tz D } σ2 A3)
    (hd : ∀ σ' G' A', Ex G G' → Ex G' A' → Pv ds.length σ' G' A' → tz D σ' A') : tSeq (tFor wi g tu) tz D σ A := f_for (D := { D with nx := tz D }) h hA Pv h0 hs hd
/-- two names for a pair -/
theorem g_two {j1 j2 : Nat} {Q : L2.St → Hp → Prop} (hA : Ex G A) (h : Is K G (.U [d1, d2]) v) (k : ∀ v1 v2, Is K G d1 v1 → Is K G d2 v2 → Q ((σ.set j1 (some v1)).set j2 (some v2)) A) : gTup K 2 (gCons (gName j1) (gCons (gName j2) gNil)) v σ A Q := by
  obtain ⟨T, vs, rfl, hT, x, r, rfl, hx, y, r2, rfl, hy, hr⟩ := h
  have er : r2 = [] := hr
  subst er
  exact ⟨T, [x, y], rfl, ex_t hA hT, rfl, x, [y], rfl, y, [], rfl, rfl, k x y hx hy⟩
/-- a comprehension over what is walked -/
theorem ef_lc {α : Type} {its : List α} {inj : α → Dd} {vs : List Nat} (f : α → Bool) (gd : α → Dd) (h : Itf K wi σ G (its.map inj)) (hz : its.length ≤ 50000)
    (hs : ∀ (i : Nat) x v G' A', Ex G G' → Ex G' A' → its[i]? = some x → Is K G' (inj x) v → ∃ σ2, (∀ Q : L2.St → Hp → Prop, Q σ2 A' → g v (wipe σ vs) A' Q) ∧ wipe σ2 vs = wipe σ vs ∧ Et K t σ2 A' (f x) ∧ (f x = true → Ef K te σ2 G' (gd x))) :
    Ef K (tLc wi g t te vs) σ G (.N ((its.filter f).map gd)) := fun G0 A0 e0 ea0 Q q =>
  h G0 A0 e0 ea0 _ fun J G1 A1 s1 hw => fun Dl hD => by
    have gD := ex_out s1.v hD
    refine ⟨fun i m A' => m = its.length - i ∧ i ≤ its.length ∧ ∃ G', Step G1 A1 G' A' ∧ G' Dl = none ∧ ∃ us, A' Dl = some (.lst us) ∧ IsE K G' (((its.take i).filter f).map gd) us, ⟨_, rfl, Nat.zero_le _, G1, .on s1.v (Ex.new hD), gD, [], upd_same, rfl⟩, ?_⟩
    rintro i m A' ⟨rfl, hi, G', st, hg, us, hu, hE⟩
    by_cases hlt : i < its.length
    · have hx : its[i]? = some its[i] := List.getElem?_eq_getElem hlt
      have hd' : (its.map inj)[i]? = some (inj its[i]) := by rw [List.getElem?_map, hx]; rfl
      obtain ⟨go, yl⟩ := (hw i G' A' st.g st.v).1 _ hd'
      refine .inr ⟨go, fun A3 => ∃ G3, Step G1 A1 G3 A3 ∧ G3 Dl = none ∧ ∃ us, A3 Dl = some (.lst us) ∧ IsE K G3 (((its.take (i + 1)).filter f).map gd) us, fun A3 p3 => ⟨its.length - (i + 1), by omega, rfl, hlt, p3⟩, fun v A'' y => ?_⟩
      obtain ⟨G2, s2, z⟩ := yl v A'' y
      have uN : A' Dl ≠ none := by rw [hu]; simp
      have g2 := s2.f Dl uN hg
      have u2 := s2.a Dl _ hu
      obtain ⟨σ2, hgt, hwp, htt, hte⟩ := hs i _ v G2 A'' ((e0.trans s1.g).trans (st.g.trans s2.g)) s2.v hx z
      have hl : us.length ≤ i := by
        rw [← isE_len hE, List.length_map]
        refine Nat.le_trans (List.length_filter_le _ _) ?_
        rw [List.length_take]
        exact Nat.min_le_left _ _
      refine hgt _ ⟨hwp, htt A'' (Ex.refl _) _ fun A3 e3 => ?_⟩
      have hn : (its.take (i + 1)).filter f = (its.take i).filter f ++ if f its[i] = true then [its[i]] else [] := by
        rw [List.take_add_one, hx]
        simp only [Option.toList, List.filter_append]
        congr 1
        by_cases hf : f its[i] = true
        · simp [hf]
        · simp [hf]
      have s3 := (st.trans s2).trans (Step.on s2.v e3)
      have u3 := e3 Dl _ u2
      by_cases hf : f its[i] = true
      · rw [if_pos hf]
        refine hte hf G2 A3 (Ex.refl G2) s3.v _ fun w G4 A4 s4 zw => ⟨us, s4.a Dl _ u3, sz_lt (by omega), ?_⟩
        have g4 := s4.f Dl (by rw [u3]; simp) g2
        refine ⟨G4, (s3.trans s4).grow hD g4, g4, us ++ [w], upd_same, ?_⟩
        rw [hn, if_pos hf, List.map_append]
        exact isE_app (IsE.mono (s2.g.trans s4.g) hE) ⟨w, [], rfl, zw, rfl⟩
      · rw [if_neg hf]
        refine ⟨G2, s3, g2, us, u3, ?_⟩
        rw [hn, if_neg hf, List.append_nil]
        exact IsE.mono s2.g hE
    · have e : i = its.length := by omega
      subst e
      refine .inl ⟨(hw _ G' A' st.g st.v).2 (by rw [List.length_map]), q _ (upd G' Dl (.lst us)) A' (s1.trans (st.seal hD hg hu)) ⟨Dl, us, rfl, upd_same, ?_⟩⟩
      rw [List.take_length] at hE
      exact IsE.mono (Ex.new hg) hE
/-! ### statements -/
theorem s_set {i : Nat} (h : Ef K te σ G d) (hA : Ex G A) (k : ∀ v G' A', Step G A G' A' → Is K G' d v → tz D (σ.set i (some v)) A') : tSeq (tAsg te (gName i)) tz D σ A := h G A (Ex.refl G) hA _ fun v G' A' s z => k v G' A' s z
theorem s_set1 {i : Nat} (h : Ef K te σ G d) (hA : Ex G A) (k : ∀ v G' A', Step G A G' A' → Is K G' d v → D.nx (σ.set i (some v)) A') : tAsg te (gName i) D σ A := h G A (Ex.refl G) hA _ fun v G' A' s z => k v G' A' s z
theorem s_ret {d' : Dd} (h : Ef K te σ G d) (hA : Ex G A) (hd : d = d') (k : ∀ v G' A', Step G A G' A' → Is K G' d' v → D.rt v A') : tRet te D σ A := h G A (Ex.refl G) hA _ fun v G' A' s z => k v G' A' s (hd ▸ z)
theorem s_new {i : Nat} (hA : Ex G A) (k : ∀ p A', A p = none → G p = none → Step G A G A' → A' p = some (.lst []) → tz D (σ.set i (some (.ref p))) A') : tSeq (tAsg (tLst tNil) (gName i)) tz D σ A :=
  ⟨Nat.zero_le _, fun p hp => k p _ hp (ex_out hA hp) (.on hA (Ex.new hp)) upd_same⟩
theorem s_app {l : Addr} {us : List V} (hl : A l = some (.lst us)) (hg : G l = none) (hA : Ex G A) (ha : Er K tl σ A (.v (.ref l))) (h : Ef K te σ G d) (hz : us.length < 100000) (k : ∀ w G' A', Step G A G' A' → Is K G' d w → G' l = none → A' l = some (.lst us) → D.nx σ (upd A' l (.lst (us ++ [w])))) :
    tDrop (tBM K "list" rAppend tl (tCons te tNil)) D σ A := ha A (Ex.refl A) _ fun v A1 e1 z1 => by
  have ez : v = .ref l := z1
  subst ez
  have h1 := e1 l _ hl
  exact ⟨Or.inl ⟨rfl, us, sq_of h1⟩, h G A1 (Ex.refl G) (hA.trans e1) _ fun w G2 A2 s2 z2 => ⟨l, us, w, rfl, rfl, s2.a l _ h1, sz_lt hz, k w G2 A2 ((Step.on hA e1).trans s2) z2 (s2.f l (by rw [h1]; simp) hg) (s2.a l _ h1)⟩⟩
end
theorem At.hasF {P : Program} {w : World} {K : PySem.W.Frag} {mg : Str → Option Value} {base : Heap} {x : Str} {st : Stmt} {N ps : List Str} {k : Nat} {T : Type} {pre : T → Prop} {args : T → List Dd} {ret : T → Dd}
    (h : At K mg x st ps) (Sc : FnScope N ps (defScope st)) (hl : ∀ a, (args a).length = ps.length)
    (hbody : ∀ (f : Addr) (cdv : Value) (Ar : Around) (outer : List Env) (s : Shared) (G A : Hp) (a : T) (vs : List V) (Q : VK) (E : XK), Room k (Ar.deeper (envOfC x (defScope st) s.heap.objs.size f cdv)) → pre a → Ex G A → IsAll K G (args a) vs →
      (∀ v G' A', Step G A G' A' → Is K G' (ret a) v → Q v A') →
      ∃ t, PSs (cxOf CX0 P w K mg base N x (defScope st) f cdv Ar outer s A E).nox (defBody st) t ∧ t { nx := fun _ A' => Q .non A', rt := Q } (start N vs) A) :
    Has P w K mg base (k + 1) x ps (spF K pre args ret) := by
  obtain ⟨f, fd, hm, F, b0, b1, b2⟩ := h.ex
  refine ⟨f, fd, hm, F.kp, F.ok Sc (fun vs H Q E hsp => ?_) (fun cdv Ar outer s A vs Q E hr hsp => ?_), b0, b1, b2⟩
  · obtain ⟨a, _, G, _, hv, _⟩ := hsp
    rw [← hv.len, hl]
  · obtain ⟨a, hp, G, hA, hv, hk⟩ := hsp
    exact hbody f cdv Ar outer s G A a vs Q E hr hp hA hv hk
end Mi

set_option maxHeartbeats 2000000
namespace Mi
open PySem PySem.Spec PyProof.Rows L2 Evl
def rMin2' : List V → Hp → VK → Prop := fun xs H Q => ∃ i j, xs = [.int i, .int j] ∧ Q (.int (if j < i then j else i)) H
theorem cr_min2' {X : Cx} (hc : X.calm = true := by rfl) : CallR X (.builtin "min") rMin2' := call_min2 hc
theorem cr_sum_k {X : Cx} {K : PySem.W.Frag} (h : X.K = K := by rfl) (hc : X.calm = true := by rfl) : CallR X (.builtin "sum") (rSum K) := h ▸ cr_sum hc
theorem cr_all_k {X : Cx} {K : PySem.W.Frag} (h : X.K = K := by rfl) (hc : X.calm = true := by rfl) : CallR X (.builtin "all") (rAll K) := h ▸ cr_all hc
section
variable {K : PySem.W.Frag} {σ : L2.St} {G A H H' : Hp} {te ta tb tc : TE} {t u : TT} {tr : TA} {d d1 d2 d3 : Dd} {x y : V} {r r' : R2} {b1 b2 : Bool}
theorem rc_min2 {i j : Int} : Rc K rMin2' [.i i, .i j] (.i (if j < i then j else i)) := by
  rintro _ H1 (_ | ⟨rfl, _ | ⟨rfl, _ | _⟩⟩) Q q
  exact ⟨i, j, rfl, q _ H1 (Ex.refl H1) rfl⟩
theorem rc_sumI {ns : List Int} : Rc K (rSum K) [.l (vis ns)] (.i ns.sum) := by
  rintro _ H1 (_ | ⟨⟨p, rfl, hp⟩, _ | _⟩) Q q
  exact ⟨p, ns, rfl, hp, q _ H1 (Ex.refl H1) rfl⟩
theorem rc_allB {bs : List Bool} : Rc K (rAll K) [.l (bs.map V.bl)] (.b (bs.all id)) := by
  rintro _ H1 (_ | ⟨⟨p, rfl, hp⟩, _ | _⟩) Q q
  exact ⟨p, bs, rfl, hp, q _ H1 (Ex.refl H1) rfl⟩
theorem rc_allBN {bs : List Bool} : Rc K (rAll K) [.n (bs.map V.bl)] (.b (bs.all id)) := fun vs H1 h Q q => by
  cases h with
  | cons a b => exact rc_allB _ H1 (.cons a.n2l b) Q q
/-- a op b op' c -/
theorem er_chain (ha : Er K ta σ H d1) (hb : Er K tb σ H d2) (hr : Ro K r d1 d2 (.b b1)) (hc : b1 = true → Er K tc σ H d3) (hr' : b1 = true → Ro K r' d2 d3 (.b b2)) : Er K (tChain r r' ta tb tc) σ H (.b (b1 && b2)) := fun H1 e Q q =>
  ha H1 e _ fun v1 H2 e2 z1 => hb H2 (e.trans e2) _ fun v2 H3 e3 z2 => hr v1 v2 H3 (z1.mono e3) z2 _ fun w H4 e4 zw => ⟨b1, zw, by
    cases b1 with
    | true =>
      rw [if_pos rfl]
      exact hc rfl H4 (((e.trans e2).trans e3).trans e4) _ fun v3 H5 e5 z3 => hr' rfl v2 v3 H5 ((z2.mono e4).mono e5) z3 Q fun w H6 e6 z6 => q w H6 ((((e2.trans e3).trans e4).trans e5).trans e6) z6
    | false =>
      rw [if_neg Bool.false_ne_true]
      exact q _ H4 ((e2.trans e3).trans e4) rfl⟩
end
end Mi

set_option maxHeartbeats 2000000
namespace Mi
open PySem PySem.Spec PyProof.Rows L2 Evl
theorem cutS_mid (l : List Nat) (n m : Nat) (hm : m ≤ l.length) : cutS (S l) (some (n : Int)) (some (m : Int)) = S ((l.drop n).take (m - n)) := by
  unfold cutS
  rw [HT.sIx_nat, HT.sIx_nat, S_len, S_list]
  show S _ = S _
  congr 1
  have e2 : min m l.length = m := by omega
  by_cases h : n ≤ l.length
  · have e1 : min n l.length = n := by omega
    rw [e1, e2]
  · have e1 : min n l.length = l.length := by omega
    rw [e1, e2, List.drop_length, List.drop_of_length_le (by omega : l.length ≤ n), List.take_nil, List.take_nil]
section
variable {K : PySem.W.Frag} {σ : L2.St} {H : Hp} {te ta tb : TE} {t : TT}
theorem er_slMidS {l : List Nat} {n m : Nat} (h : Er K te σ H (.s (S l))) (hz : l.length ≤ 100000) (h1 : Er K ta σ H (.i (n : Int))) (h2 : Er K tb σ H (.i (m : Int))) (hm : m ≤ l.length) : Er K (tSl rSlS te (tPart ta) (tPart tb)) σ H (.s (S ((l.drop n).take (m - n)))) := by
  rw [← cutS_mid _ _ _ hm]
  exact er_slS h (by rw [S_len]; exact hz) (eo_of h1) (eo_of h2)
theorem er_dash {n : Nat} {te tn : TE} (h1 : Er K te σ H (.s (S [45]))) (h2 : Er K tn σ H (.i (n : Int))) (hn : n ≤ 1000) : Er K (tOp rMulS te tn) σ H (.s (S (List.replicate n 45))) := Er.to (er_op h1 h2 (ro_mulC hn (by decide))) (by rw [List.flatten_replicate_singleton])
/-- a text's sign at a place that is known to be whole and not below zero -/
theorem er_sign {l : List Nat} {n : Nat} (h : Er K te σ H (.s (S l))) (h2 : Er K ta σ H (.i (n : Int))) (hn : n < l.length) (hz : l.length ≤ 100000) : Er K (tOp rIxS te ta) σ H (.s (S [l.getD n 0])) := Er.to (er_op h h2 (ro_ixC (by omega) (by omega) hz)) (by rw [Int.toNat_natCast])
theorem er_num {ns : List Int} {n : Nat} (h : Er K te σ H (.l (vis ns))) (h2 : Er K ta σ H (.i (n : Int))) (hn : n < ns.length) : Er K (tOp (rIxL K) te ta) σ H (.i (ns.getD n 0)) := Er.to (er_op h h2 (ro_ixI (by omega) (by omega))) (by rw [Int.toNat_natCast])
theorem er_numN {ns : List Int} {n : Nat} (h : Er K te σ H (.n (vis ns))) (h2 : Er K ta σ H (.i (n : Int))) (hn : n < ns.length) : Er K (tOp (rIxL K) te ta) σ H (.i (ns.getD n 0)) := Er.to (er_op h h2 (ro_ixIN (by omega) (by omega))) (by rw [Int.toNat_natCast])
theorem er_numL {xs : List Int} {i : Nat} (h : Er K te σ H (.n (vis xs))) (h2 : Er K ta σ H (.i (i : Int))) (hn : i < xs.length) : Er K (tOp (rIxL K) te ta) σ H (.i (xs.getD i 0)) := er_numN h h2 hn
end
end Mi

set_option maxHeartbeats 2000000
namespace Mi
open PySem PySem.Spec PyProof.Rows L2 Evl
section
variable {K : PySem.W.Frag} {σ : L2.St} {G A H : Hp} {te to ti tl ta tb : TE} {t : TT} {tu : TS} {d e : Dd} {D : Ends} {ds es : List Dd} {b : Bool}
theorem s_setitem {l : Addr} {us : List V} {j : Nat} (hl : A l = some (.lst us)) (hg : G l = none) (hA : Ex G A) (h : Ef K te σ G d) (ha : Er K to σ A (.v (.ref l))) (hi : Er K ti σ A (.i (j : Int))) (hj : j < us.length)
    (k : ∀ w G' A', Step G A G' A' → Is K G' d w → G' l = none → A' l = some (.lst us) → D.nx σ (upd A' l (.lst (us.set j w)))) : tAsg te (gSub to ti rSetL) D σ A :=
  h G A (Ex.refl G) hA _ fun w G1 A1 s1 z1 => ha A1 s1.a _ fun v A2 e2 zv => hi A2 (s1.a.trans e2) _ fun i A3 e3 zi => by
    have ev : v = .ref l := zv
    have ei : i = .int (j : Int) := zi
    subst ev
    subst ei
    have l3 := e3 l _ (e2 l _ (s1.a l _ hl))
    refine ⟨l, us, (j : Int), j, rfl, rfl, l3, ?_, k w G1 A3 ((s1.trans (.on s1.v e2)).trans (.on (s1.v.trans e2) e3)) z1 (s1.f l (by rw [hl]; simp) hg) l3⟩
    unfold ixN
    simp
    omega
/-- an if without else: what holds behind it is said once -/
theorem a_whenR {tz : TS} (Pm : L2.St → Hp → Prop) (h : Et K t σ H b) (hr : ∀ σ' H', Pm σ' H' → tz D σ' H') (h1 : (∀ σ' H', Pm σ' H' → tz D σ' H') → b = true → ∀ H1, Ex H H1 → tu { D with nx := tz D } σ H1) (h2 : b = false → ∀ H1, Ex H H1 → Pm σ H1) : tSeq (tIfS t tu tNext) tz D σ H :=
  a_when h (h1 hr) fun hb H1 e1 => hr σ H1 (h2 hb H1 e1)
/-- o[j] = [.., ..], flat items -/
theorem s_setflat {l : Addr} {us xs : List V} {j : Nat} {tr : TA} (hl : A l = some (.lst us)) (hg : G l = none) (hA : Ex G A) (h : Era K tr σ A (xs.map Dd.v)) (hz : xs.length ≤ 100000) (ha : Er K to σ A (.v (.ref l))) (hi : Er K ti σ A (.i (j : Int))) (hj : j < us.length)
    (k : ∀ p G' A', Step G A G' A' → G' p = some (.lst xs) → G' l = none → A' l = some (.lst us) → D.nx σ (upd A' l (.lst (us.set j (.ref p))))) : tAsg (tLst tr) (gSub to ti rSetL) D σ A :=
  h A (Ex.refl A) _ fun ws A1 e1 z => by
    have ew := flat_all z
    subst ew
    refine ⟨sz_of hz, fun p hp => ?_⟩
    have s1 : Step G A (upd G p (.lst ws)) (upd A1 p (.lst ws)) := (Step.on hA e1).trans (.new (hA.trans e1) hp)
    refine ha _ s1.a _ fun v A2 e2 zv => hi A2 (s1.a.trans e2) _ fun i A3 e3 zi => ?_
    have ev : v = .ref l := zv
    have ei : i = .int (j : Int) := zi
    subst ev
    subst ei
    have l3 := e3 l _ (e2 l _ (s1.a l _ hl))
    exact ⟨l, us, (j : Int), j, rfl, rfl, l3, ixN_nat hj, k p _ A3 ((s1.trans (.on s1.v e2)).trans (.on (s1.v.trans e2) e3)) upd_same (s1.f l (by rw [hl]; simp) hg) l3⟩
/-- items that are read as lists where they stand as lists of ours -/
theorem isE_map {α : Type} {f g : α → Dd} (h : ∀ x H v, Is K H (f x) v → Is K H (g x) v) : ∀ {l : List α} {vs : List V}, IsE K H (l.map f) vs → IsE K H (l.map g) vs
  | [], _, h1 => h1
  | x :: r, _, h1 => by
    obtain ⟨y, s, rfl, a, b⟩ := h1
    exact ⟨y, s, rfl, h x H y a, isE_map h b⟩
theorem isE_set : ∀ {ds : List Dd} {vs : List V} {i : Nat} {d : Dd} {w : V}, IsE K H ds vs → Is K H d w → IsE K H (ds.set i d) (vs.set i w)
  | [], _, i, d, w, h, _ => by rw [show _ = [] from h]; rfl
  | x :: r, _, 0, d, w, h, z => by
    obtain ⟨y, s, rfl, a, b⟩ := h
    exact ⟨w, s, rfl, z, b⟩
  | x :: r, _, i + 1, d, w, h, z => by
    obtain ⟨y, s, rfl, a, b⟩ := h
    exact ⟨y, s.set i w, rfl, a, isE_set (i := i) b z⟩
/-- a place of a list of any items -/
theorem er_place {i : Nat} (h : Er K tl σ H (.L ds)) (h2 : Er K ta σ H (.i (i : Int))) (hd : ds[i]? = some d) : Er K (tOp (rIxL K) tl ta) σ H d := er_op h h2 (ro_ixLd hd)
end
/-- a stock's pairs as lists -/
def stD (st : List (List Nat × List Nat)) : List Dd := st.map fun p => Dd.L [.s (S p.1), .s (S p.2)]
theorem stD_at {st : List (List Nat × List Nat)} {i : Nat} {p : List Nat × List Nat} (h : st[i]? = some p) : (stD st)[i]? = some (Dd.L [.s (S p.1), .s (S p.2)]) := by
  rw [stD, List.getElem?_map, h]
  rfl
theorem stD_of {st : List (List Nat × List Nat)} {i : Nat} {d : Dd} (h : (stD st)[i]? = some d) : ∃ p, st[i]? = some p ∧ d = Dd.L [.s (S p.1), .s (S p.2)] := by
  rw [stD, List.getElem?_map] at h
  cases q : st[i]? with
  | none => rw [q] at h; cases h
  | some p => rw [q] at h; exact ⟨p, rfl, (Option.some.inj h).symm⟩
theorem stD_len {st : List (List Nat × List Nat)} : (stD st).length = st.length := by simp [stD]
end Mi

set_option maxHeartbeats 2000000
namespace Mi
open PySem PySem.Spec PyProof.Rows L2 Evl
theorem cr_isiT_k {X : Cx} {K : PySem.W.Frag} (h : X.K = K := by rfl) : CallR X (.builtin "isinstance") (rIsiT K) := h ▸ call_isiT
section
variable {K : PySem.W.Frag} {σ : L2.St} {G A H : Hp} {te tl : TE} {d : Dd} {ds : List Dd} {x : V}
/-- isinstance(x, (T1, T2)) -/
theorem er_isiT {n1 n2 : String} {b : Bool} (t : Value) (h : Er K te σ H d) (ht : ∀ H1 v, Is K H1 d v → TyX K H1 v t) (hk : PySem.W.kitAny K t [.type n1, .type n2] = some b) : Er K (tCB (rIsiT K) (tCons te (tCons (tTup (tCons (tC (.ty n1)) (tCons (tC (.ty n2)) tNil))) tNil))) σ H (.b b) := fun H1 e Q q =>
  h H1 e _ fun v H2 e2 z => ⟨sz_of (by simp), fun p hp => ⟨v, p, [.ty n1, .ty n2], t, [.type n1, .type n2], b, rfl, upd_same, .cons (.ty n1) (.cons (.ty n2) .nil), ht _ _ (z.mono (Ex.new hp)), hk, q _ _ (e2.trans (Ex.new hp)) rfl⟩⟩
/-- what a variable holds is walked, a list or a tuple -/
def iSeqV (K : PySem.W.Frag) (i : Nat) : TI := fun σ H R => ∃ a, σ[i]? = some (some (.ref a)) ∧ (((∃ xs, SqL K H a xs) ∧ R (Itl K a) H) ∨ ((∃ xs, SqT K H a xs) ∧ R (Itt K a) H))
theorem pi_seqV {X : Cx} {tg l : Expr} {i : Nat} (hl : PE X l (tVar i)) (h : X.K = K := by rfl) : PI X tg l (iSeqV K i) := by
  subst h
  refine ⟨fun pins s σ H R I h => ?_⟩
  obtain ⟨a, e, h | h⟩ := h
  · exact (pi_list hl).run pins s σ H R I ⟨.ref a, e, a, rfl, h.1, h.2⟩
  · exact (pi_tup hl).run pins s σ H R I ⟨.ref a, e, a, rfl, h.1, h.2⟩
theorem if_seqL {i : Nat} (hx : σ[i]? = some (some x)) (h : Is K G (.L ds) x) : Itf K (iSeqV K i) σ G ds := fun G1 A e1 e2 R r => by
  have q := if_list (ef_var hx h) G1 A e1 e2 R r
  obtain ⟨y, hy, a, rfl, q1, q2⟩ := q
  exact ⟨a, hy, .inl ⟨q1, q2⟩⟩
theorem if_seqU {i : Nat} (hx : σ[i]? = some (some x)) (h : Is K G (.U ds) x) : Itf K (iSeqV K i) σ G ds := fun G1 A e1 e2 R r => by
  have q := if_tup (ef_var hx h) G1 A e1 e2 R r
  obtain ⟨y, hy, a, rfl, q1, q2⟩ := q
  exact ⟨a, hy, .inr ⟨q1, q2⟩⟩
theorem ty_Ld {v : V} (h : Is K H (.L ds) v) : TyX K H v (.type "list") := by
  obtain ⟨p, vs, rfl, hp, _⟩ := h
  exact ty_l ⟨p, rfl, hp⟩
theorem ty_Ud {v : V} (h : Is K H (.U ds) v) : TyX K H v (.type "tuple") := by
  obtain ⟨p, vs, rfl, hp, _⟩ := h
  exact ty_u ⟨p, rfl, hp⟩
end
/-! ### texts, whole numbers, lists and tuples of such, nested -/
mutual
def tupD : Dd → Dd
  | .L ds => .U (tupL ds)
  | .U ds => .U (tupL ds)
  | d => d
def tupL : List Dd → List Dd
  | [] => []
  | d :: r => tupD d :: tupL r
end
mutual
def depD : Dd → Nat
  | .L ds => depL ds + 1
  | .U ds => depL ds + 1
  | _ => 0
def depL : List Dd → Nat
  | [] => 0
  | d :: r => max (depD d) (depL r)
end
mutual
def okD : Dd → Prop
  | .v (.str _) => True
  | .v (.int _) => True
  | .L ds => okL ds ∧ ds.length ≤ 1000
  | .U ds => okL ds ∧ ds.length ≤ 1000
  | _ => False
def okL : List Dd → Prop
  | [] => True
  | d :: r => okD d ∧ okL r
end
theorem tupL_map : ∀ ds : List Dd, tupL ds = ds.map tupD
  | [] => rfl
  | d :: r => by rw [tupL, tupL_map r]; rfl
theorem okL_at : ∀ {ds : List Dd} {i : Nat} {d : Dd}, okL ds → ds[i]? = some d → okD d
  | [], _, _, _, h => by simp at h
  | x :: r, 0, d, h, e => Option.some.inj e ▸ h.1
  | x :: r, i + 1, d, h, e => okL_at (i := i) h.2 e
theorem depL_at : ∀ {ds : List Dd} {i : Nat} {d : Dd}, ds[i]? = some d → depD d ≤ depL ds
  | [], _, _, h => by simp at h
  | x :: r, 0, d, e => by
    rw [← Option.some.inj e]
    exact Nat.le_max_left _ _
  | x :: r, i + 1, d, e => Nat.le_trans (depL_at (i := i) e) (Nat.le_max_right _ _)
/-- a def of which nothing is asked -/
theorem At.none {P : Program} {w : World} {K : PySem.W.Frag} {mg : Str → Option Value} {base : Heap} {x : Str} {st : Stmt} {ps : List Str} {T : Type} {pre : T → Prop} {args : T → List Dd} {ret : T → Dd} (h : At K mg x st ps) (hn : ∀ a, ¬ pre a) : Has P w K mg base 0 x ps (spF K pre args ret) := by
  obtain ⟨f, fd, hm, F, b0, b1, b2⟩ := h.ex
  refine ⟨f, fd, hm, F.kp, ⟨fun vs H Q E hsp => ?_, fun A outer s H args us vs Q E hr he hb hv hsp => ?_⟩, b0, b1, b2⟩
  · obtain ⟨a, hp, _⟩ := hsp
    exact absurd hp (hn a)
  · obtain ⟨a, hp, _⟩ := hsp
    exact absurd hp (hn a)
end Mi

set_option maxHeartbeats 2000000
namespace Mi
open PySem PySem.Spec PyProof.Rows L2 Evl
/-! ### great numbers -/
def CDivWN (i j : Int) : Prop := j ≠ 0 ∧ j.natAbs.log2 < 9000
theorem op_fdivWN {X : Cx} : OpR X (binaryOp .FloorDiv) (rI CDivWN fun i j => .int (i.fdiv j)) := opI fun _ _ _ _ _ _ _ hc q => floordiv_int hc.1 q (.inl (PyProof.noPylong_of_log2 hc.2))
def Bd (n : Nat) (x : Int) : Prop := x.natAbs < 2 ^ n
theorem Bd.mono {n m : Nat} {x : Int} (h : Bd n x) (e : n ≤ m) : Bd m x := Nat.lt_of_lt_of_le h (Nat.pow_le_pow_right (by decide) e)
theorem Bd.mul {n m : Nat} {x y : Int} (h : Bd n x) (g : Bd m y) : Bd (n + m) (x * y) := wide_lt h g
theorem Bd.add {n : Nat} {x y : Int} (h : Bd n x) (g : Bd n y) : Bd (n + 1) (x + y) := by
  unfold Bd at *
  rw [Nat.pow_succ]
  omega
theorem Bd.sub {n : Nat} {x y : Int} (h : Bd n x) (g : Bd n y) : Bd (n + 1) (x - y) := by
  unfold Bd at *
  rw [Nat.pow_succ]
  omega
theorem Bd.neg {n : Nat} {x : Int} (h : Bd n x) : Bd n (-x) := by
  unfold Bd at *
  omega
theorem Bd.le {n : Nat} {x y : Int} (h : Bd n x) (g : y.natAbs ≤ x.natAbs) : Bd n y := Nat.lt_of_le_of_lt g h
section
variable {K : PySem.W.Frag} {σ : L2.St} {H H0 H' : Hp} {te tl ta tb tc : TE} {t u : TT} {tr : TA} {d d0 d1 d2 : Dd} {D : Ends} {tu tw tz : TS} {x y : V} {ds es : List Dd} {b : Bool}
theorem ro_mulW {i j : Int} {n m : Nat} (h : Bd n i) (g : Bd m j) (h0 : 0 < n) (h1 : 0 < m) (e : n + m ≤ 1000000) : Ro K (rI CMulW fun i j => .int (i * j)) (.i i) (.i j) (.i (i * j)) := ro_I (wide_mul h g h0 h1 e)
theorem ro_divWN {i j : Int} {n : Nat} (h0 : j ≠ 0) (h : Bd n j) (hn : 0 < n) (h9 : n ≤ 9000) : Ro K (rI CDivWN fun i j => .int (i.fdiv j)) (.i i) (.i j) (.i (i.fdiv j)) := ro_I ⟨h0, Nat.lt_of_lt_of_le (PySem.Flt.log2_lt_of hn h) h9⟩
theorem ro_divW {i j : Int} (h : 0 < j) (h2 : j < 4611686018427387904) : Ro K (rI CDivW fun i j => .int (i / j)) (.i i) (.i j) (.i (i / j)) := ro_I (wide_div (b := 62) h (by omega) (by decide) (by decide))
theorem er_un {r : V → Hp → VK → Prop} (h : Er K te σ H d1) (hr : ∀ x H1, Is K H1 d1 x → ∀ Q : VK, (∀ v H2, Ex H1 H2 → Is K H2 d v → Q v H2) → r x H1 Q) : Er K (tUn r te) σ H d := fun H1 e Q q =>
  h H1 e _ fun v H2 e2 z => hr v H2 z Q fun w H3 e3 z3 => q w H3 (e2.trans e3) z3
theorem er_neg {i : Int} (h : Er K te σ H (.i i)) : Er K (tUn (rU fun i => .int (-i)) te) σ H (.i (-i)) := er_un h fun x H1 z Q q => ⟨i, z, q _ H1 (Ex.refl H1) rfl⟩
theorem ro_1012 : Ro K (rI CPow fun i j => .int (i ^ j.toNat)) (.i 10) (.i 12) (.i 1000000000000) := ro_I (K := K) (C := CPow) (g := fun i j => .int (i ^ j.toNat)) (i := 10) (j := 12) ⟨by decide, by decide, by decide⟩
theorem ro_1015 : Ro K (rI CPow fun i j => .int (i ^ j.toNat)) (.i 10) (.i 15) (.i 1000000000000000) := ro_I (K := K) (C := CPow) (g := fun i j => .int (i ^ j.toNat)) (i := 10) (j := 15) ⟨by decide, by decide, by decide⟩
/-! ### is, for truth values; gcd; abs -/
theorem ro_notBl {a b : Bool} : Ro K rNotB (.b a) (.b b) (.b (!decide (a = b))) := by
  rintro _ _ H1 rfl rfl Q q
  exact ⟨a, b, rfl, rfl, q _ H1 (Ex.refl H1) rfl⟩
theorem ro_isBl {a b : Bool} : Ro K rIsB (.b a) (.b b) (.b (decide (a = b))) := by
  rintro _ _ H1 rfl rfl Q q
  exact ⟨a, b, rfl, rfl, q _ H1 (Ex.refl H1) rfl⟩
def gcdI (a b : Int) : Int := ((Nat.gcd a.natAbs b.natAbs : Nat) : Int)
theorem rc_gcd {a b : Int} : Rc K rGcd [.i a, .i b] (.i (gcdI a b)) := by
  rintro _ H1 (_ | ⟨rfl, _ | ⟨rfl, _ | _⟩⟩) Q q
  exact ⟨a, b, rfl, q _ H1 (Ex.refl H1) rfl⟩
def rAbs : List V → Hp → VK → Prop := fun xs H Q => ∃ i, xs = [.int i] ∧ Q (.int (if i < 0 then -i else i)) H
theorem cr_abs {X : Cx} : CallR X (.builtin "abs") rAbs := call_abs
theorem rc_abs {i : Int} : Rc K rAbs [.i i] (.i ((i.natAbs : Nat) : Int)) := by
  rintro _ H1 (_ | ⟨rfl, _ | _⟩) Q q
  exact ⟨i, rfl, q _ H1 (Ex.refl H1) (by
    show V.int _ = V.int _
    congr 1
    split <;> omega)⟩
/-! ### lists or tuples -/
inductive Sq : Dd → List Dd → Prop where
  | N (ds : List Dd) : Sq (.N ds) ds
  | U (ds : List Dd) : Sq (.U ds) ds
def rIxE (K : PySem.W.Frag) : R2 := fun x y H Q => rIxL K x y H Q ∨ rIxT K x y H Q
theorem ix_seq_k {X : Cx} (h : X.K = K := by rfl) : IxR X (rIxE K) := h ▸ IxR.or ix_list ix_tup
theorem ro_ixE {i : Nat} (h : Sq d0 ds) (hd : ds[i]? = some d) : Ro K (rIxE K) d0 (.i (i : Int)) d := by
  cases h with
  | N => exact fun v w H1 a b Q q => .inl (ro_ixNd hd v w H1 a b Q q)
  | U => exact fun v w H1 a b Q q => .inr (ro_ixUd hd v w H1 a b Q q)
theorem rc_lenE (h : Sq d0 ds) : Rc K (rLenS K) [d0] (.i (ds.length : Int)) := by
  cases h with
  | N => exact rc_lenNd
  | U => exact rc_lenUd
def gSeq (K : PySem.W.Frag) (n : Nat) (t : TGs) : TG := fun v σ H Q => gTup K n t v σ H Q ∨ gLst K n t v σ H Q
theorem pg_seq {X : Cx} {pos : Pos} {es : List Expr} {k : Nat} {t : TGs} {n : Nat} (hc : X.calm = true) (h : PGs X es t) (hK : X.K = K := by rfl)
    (hn : (assignEach es X.env).length = n := by rfl) (hst : (assignEach es X.env).findIdx? (·.1) = none := by rfl) : PG X (.Tuple es k pos) (gSeq K n t) := by
  subst hK
  refine ⟨fun pins s σ H v u Q I r hw => ?_⟩
  rcases hw with hw | hw
  · exact (pg_tup hc h hn hst).run pins s σ H v u Q I r hw
  · exact (pg_lst hc h hn hst).run pins s σ H v u Q I r hw
theorem g_pair {j1 j2 : Nat} {v : V} {Q : L2.St → Hp → Prop} (h : Sq d0 [d1, d2]) (hv : Is K H d0 v) (k : ∀ v1 v2, Is K H d1 v1 → Is K H d2 v2 → Q ((σ.set j1 (some v1)).set j2 (some v2)) H) : gSeq K 2 (gCons (gName j1) (gCons (gName j2) gNil)) v σ H Q := by
  cases h with
  | N =>
    obtain ⟨T, vs, rfl, hT, x, r, rfl, hx, y, r2, rfl, hy, hr⟩ := hv
    have er : r2 = [] := hr
    subst er
    exact .inr ⟨T, [x, y], rfl, sq_of hT, rfl, x, [y], rfl, y, [], rfl, rfl, k x y hx hy⟩
  | U =>
    obtain ⟨T, vs, rfl, hT, x, r, rfl, hx, y, r2, rfl, hy, hr⟩ := hv
    have er : r2 = [] := hr
    subst er
    exact .inl ⟨T, [x, y], rfl, hT, rfl, x, [y], rfl, y, [], rfl, rfl, k x y hx hy⟩
/-- (x, y) = a pair, both flat -/
theorem a_pair {i j : Nat} {xa xb : V} (h : Er K te σ H d0) (hs : Sq d0 [.v xa, .v xb]) (k : ∀ H1, Ex H H1 → tz D ((σ.set i (some xa)).set j (some xb)) H1) : tSeq (tAsg te (gSeq K 2 (gCons (gName i) (gCons (gName j) gNil)))) tz D σ H :=
  h H (Ex.refl H) _ fun v H1 e z => g_pair hs z fun v1 v2 h1 h2 => by
    have e1 : v1 = xa := h1
    have e2 : v2 = xb := h2
    subst e1
    subst e2
    exact k H1 e
/-- both of any kind -/
theorem a_pairD {i j : Nat} (h : Er K te σ H d0) (hs : Sq d0 [d1, d2]) (k : ∀ v1 v2 H1, Ex H H1 → Is K H1 d1 v1 → Is K H1 d2 v2 → tz D ((σ.set i (some v1)).set j (some v2)) H1) : tSeq (tAsg te (gSeq K 2 (gCons (gName i) (gCons (gName j) gNil)))) tz D σ H :=
  h H (Ex.refl H) _ fun v H1 e z => g_pair hs z fun v1 v2 h1 h2 => k v1 v2 H1 e h1 h2
/-! ### dicts that nobody reads -/
theorem er_d0 : Er K tDNewK σ H .D := fun H1 _ _ q p hp => q _ _ (Ex.new hp) ⟨p, [], rfl, upd_same⟩
theorem er_d2 {a b c e : Int} : Er K (tDisp [(tC (.int a), tC (.int b)), (tC (.int c), tC (.int e))]) σ H .D := fun H1 _ _ q p hp =>
  ⟨upd_same, [(.inl a, .int b), (.inl c, .int e)], rfl, by simp, q _ _ (Ex.mut (Ex.new hp) hp) ⟨p, _, rfl, upd_same⟩⟩
/-! ### a loop over a list of ours, its items of any kind -/
theorem b_forN {j : Nat} (h : Er K tl σ H (.N ds)) (Pv : Nat → L2.St → Hp → Prop) (h0 : ∀ H1, Ex H H1 → Pv 0 σ H1)
    (hs : ∀ H1, Ex H H1 → ∀ i d v σ' H', ds[i]? = some d → (∀ H2, Ex H1 H2 → Is K H2 d v) → Pv i σ' H' → Ex H1 H' → tu { D with nx := fun σ2 H2 => Pv (i + 1) σ2 H2 ∧ Ex H1 H2, ct := fun σ2 H2 => Pv (i + 1) σ2 H2 ∧ Ex H1 H2, bk := tz D } (σ'.set j (some v)) H')
    (hd : ∀ σ' H', Ex H H' → Pv ds.length σ' H' → tz D σ' H') : tSeq (tFor (iList K tl) (gName j) tu) tz D σ H :=
  h H (Ex.refl H) _ fun v H1 e1 ⟨p, vs, ep, hp, hE⟩ => by
    subst ep
    have z := isE_all.mp hE
    have len := z.len
    refine ⟨p, rfl, ⟨vs, sq_of hp⟩, ?_⟩
    refine for_list (D := { D with nx := tz D }) (xs := vs) (fun i σ' H' => Pv i σ' H' ∧ Ex H1 H') ⟨h0 _ e1, Ex.refl _⟩ (fun i σ' H' _ q => sq_of (q.2 p _ hp)) (fun i v σ' H' hv q => ?_) fun σ' H' q => hd σ' H' (e1.trans q.2) (by rw [len]; exact q.1)
    obtain ⟨d, hd', hi⟩ := isAll_at z hv
    exact hs _ e1 i d v σ' H' hd' (fun H2 e3 => hi.mono e3) q.1 q.2
theorem b_forR {ta : TA} {j : Nat} {n : Nat} (h : Era K ta σ H [.v (.int (n : Int))]) (hn : n ≤ 2000000) (Pv : Nat → L2.St → Hp → Prop) (h0 : ∀ H1, Ex H H1 → Pv 0 σ H1)
    (hs : ∀ (i : Nat) σ' H', i < n → Pv i σ' H' → tu { D with nx := Pv (i + 1), ct := Pv (i + 1), bk := tz D } (σ'.set j (some (.int (i : Int)))) H') (hd : ∀ σ' H', Pv n σ' H' → tz D σ' H') : tSeq (tFor (iRng1 ta) (gName j) tu) tz D σ H :=
  h H (Ex.refl H) _ fun vs H1 e z => by
    rcases z with _ | ⟨rfl, _ | _⟩
    exact ⟨(n : Int), rfl, by omega, by omega, for_range (D := { D with nx := tz D }) (lo := 0) (n := (n : Int).toNat) Pv (h0 H1 e) (fun i σ' H' hi p => by
      have e0 : (0 : Int) + (i : Int) = (i : Int) := Int.zero_add _
      show tu { D with nx := Pv (i + 1), ct := Pv (i + 1), bk := tz D } (σ'.set j (some (.int ((0 : Int) + (i : Int))))) H'
      rw [e0]
      exact hs i σ' H' (by omega) p) (by rw [Int.toNat_natCast]; exact hd)⟩
/-! ### deep == of pairs of whole numbers -/
theorem ro_eqUU {a b c e : Int} : Ro K (rEqD K) (.U [.i a, .i b]) (.U [.i c, .i e]) (.b (decide ([a, b] = [c, e]))) := fun x y H1 h1 h2 => ro_eqU (ns := [a, b]) (ms := [c, e]) x y H1 (Is.U2u (xs := vis [a, b]) h1) (Is.U2u (xs := vis [c, e]) h2)
theorem ro_eqNN {a b c e : Int} : Ro K (rEqD K) (.N [.i a, .i b]) (.N [.i c, .i e]) (.b (decide ([a, b] = [c, e]))) := fun x y H1 h1 h2 => ro_eqL (ns := [a, b]) (ms := [c, e]) x y H1 (Is.N2n (xs := vis [a, b]) h1).n2l (Is.N2n (xs := vis [c, e]) h2).n2l
theorem dp_pair {a b : Int} {H1 : Hp} {x : V} (h : Is K H1 (.N [.i a, .i b]) x) : Dp K H1 x (.list [.int a, .int b]) := by
  obtain ⟨p, rfl, hp⟩ := (Is.N2n (xs := vis [a, b]) h).n2l
  exact .lst hp (.cons (.int a) (.cons (.int b) .nil))
theorem dp_pairs {a b c e : Int} {H1 : Hp} {x : V} (h : Is K H1 (.N [.N [.i a, .i b], .N [.i c, .i e]]) x) : Dp K H1 x (.list [.list [.int a, .int b], .list [.int c, .int e]]) := by
  obtain ⟨p, vs, rfl, hp, x, r, rfl, hx, y, r2, rfl, hy, hr⟩ := h
  have er : r2 = [] := hr
  subst er
  exact .lst (sq_of hp) (.cons (dp_pair hx) (.cons (dp_pair hy) .nil))
theorem ro_eqPP {a b c e : Int} : Ro K (rEqD K) (.N [.N [.i a, .i b], .N [.i c, .i e]]) (.N [.N [.i a, .i b], .N [.i c, .i e]]) (.b true) := by
  intro x y H1 h1 h2 Q q
  refine ⟨_, _, dp_pairs h1, dp_pairs h2, ?_, ?_, q _ H1 (Ex.refl H1) ?_⟩
  · simp [SeqAt.shaped, PyData.canLay0, PyData.depth, PyData.canLayAll0, PyData.depthAll]
  · simp [SeqAt.shaped, PyData.canLay0, PyData.depth, PyData.canLayAll0, PyData.depthAll]
  · show V.bl _ = V.bl true
    simp [PyData.eqv, PyData.eqvAll]
end
/-! ### kinds of values -/
def tyN : Dd → String
  | .v (.int _) => "int"
  | .v (.bl _) => "bool"
  | .v .non => "NoneType"
  | .v (.str _) => "str"
  | .N _ => "list"
  | .U _ => "tuple"
  | .D => "dict"
  | _ => "?"
theorem ty_of {K : PySem.W.Frag} {H : Hp} : ∀ {d : Dd} {v : V}, tyN d ≠ "?" → Is K H d v → TyX K H v (.type (tyN d))
  | .v (.int i), _, _, h => by rw [show _ = V.int i from h]; exact .base (.int i)
  | .v (.bl b), _, _, h => by rw [show _ = V.bl b from h]; exact .base (.bl b)
  | .v .non, _, _, h => by rw [show _ = V.non from h]; exact .base .non
  | .v (.str x), _, _, h => by rw [show _ = V.str x from h]; exact .base (.str x)
  | .N ds, _, _, h => ty_Ld h.N2L
  | .U ds, _, _, h => ty_Ud h
  | .D, _, _, h => by obtain ⟨p, kvs, rfl, e⟩ := h; exact .base (.dK e)
  | .v (.byt _), _, n, _ => absurd rfl n
  | .v (.flt _), _, n, _ => absurd rfl n
  | .v (.ref _), _, n, _ => absurd rfl n
  | .v (.ty _), _, n, _ => absurd rfl n
  | .P _, _, n, _ => absurd rfl n
  | .l _, _, n, _ => absurd rfl n
  | .n _, _, n, _ => absurd rfl n
  | .u _, _, n, _ => absurd rfl n
  | .L _, _, n, _ => absurd rfl n
theorem tyN_cases : ∀ {d : Dd}, tyN d ≠ "?" → tyN d = "int" ∨ tyN d = "bool" ∨ tyN d = "NoneType" ∨ tyN d = "str" ∨ tyN d = "list" ∨ tyN d = "tuple" ∨ tyN d = "dict"
  | .v (.int i), _ => .inl rfl
  | .v (.bl b), _ => .inr (.inl rfl)
  | .v .non, _ => .inr (.inr (.inl rfl))
  | .v (.str x), _ => .inr (.inr (.inr (.inl rfl)))
  | .N ds, _ => .inr (.inr (.inr (.inr (.inl rfl))))
  | .U ds, _ => .inr (.inr (.inr (.inr (.inr (.inl rfl)))))
  | .D, _ => .inr (.inr (.inr (.inr (.inr (.inr rfl)))))
  | .v (.byt _), n => absurd rfl n
  | .v (.flt _), n => absurd rfl n
  | .v (.ref _), n => absurd rfl n
  | .v (.ty _), n => absurd rfl n
  | .P _, n => absurd rfl n
  | .l _, n => absurd rfl n
  | .n _, n => absurd rfl n
  | .u _, n => absurd rfl n
  | .L _, n => absurd rfl n
theorem kit2' {K : PySem.W.Frag} {n m1 m2 : String} {b1 b2 : Bool} (h1 : kitB n m1 = some b1) (h2 : kitB n m2 = some b2) : PySem.W.kitAny K (.type n) [.type m1, .type m2] = some (b1 || b2) := by
  have e1 : PySem.W.kitOne K (.type n) (.type m1) = some b1 := kit_ty h1
  have e2 : PySem.W.kitOne K (.type n) (.type m2) = some b2 := kit_ty h2
  unfold PySem.W.kitAny
  rw [e1]
  cases b1 with
  | true => rfl
  | false =>
    show PySem.W.kitAny K (.type n) [.type m2] = some b2
    unfold PySem.W.kitAny
    rw [e2]
    cases b2 with
    | true => rfl
    | false => rfl
theorem kit_int {d : Dd} (h : tyN d ≠ "?") : kitB (tyN d) "int" = some (tyN d == "int" || tyN d == "bool") := by
  rcases tyN_cases h with e | e | e | e | e | e | e <;> rw [e] <;> decide +kernel
theorem kit_bool {d : Dd} (h : tyN d ≠ "?") : kitB (tyN d) "bool" = some (tyN d == "bool") := by
  rcases tyN_cases h with e | e | e | e | e | e | e <;> rw [e] <;> decide +kernel
theorem kit_list {d : Dd} (h : tyN d ≠ "?") : kitB (tyN d) "list" = some (tyN d == "list") := by
  rcases tyN_cases h with e | e | e | e | e | e | e <;> rw [e] <;> decide +kernel
theorem kit_tuple {d : Dd} (h : tyN d ≠ "?") : kitB (tyN d) "tuple" = some (tyN d == "tuple") := by
  rcases tyN_cases h with e | e | e | e | e | e | e <;> rw [e] <;> decide +kernel
section
variable {K : PySem.W.Frag} {d : Dd}
theorem rc_isiD {n : String} {b : Bool} (h : tyN d ≠ "?") (hk : kitB (tyN d) n = some b) : Rc K (rIsi K) [d, .v (.ty n)] (.b b) := rc_isi (.type (tyN d)) (fun _ _ z => ty_of h z) (kit_ty hk)
end
end Mi

set_option maxHeartbeats 2000000
namespace Mi
open PySem PySem.Spec PyProof.Rows L2 Evl
/-! ### iter(t), t a tuple -/
abbrev itTup (t : Addr) (i : Nat) : Obj := { cls := .type "tuple_iterator", data := .fields #[.ref t, .int i 0] }
def TupO (t it : Addr) (i : Nat) : HO := .ext fun h => h.get? it = some (itTup t i)
theorem tupO_ok {P : Program} {w : World} {H : Hp} {h : Heap} {t it : Addr} {i : Nat} (e : h.get? it = some (itTup t i)) : ObjOk P w H h it (TupO t it i) := ⟨e, ⟨_, e⟩, fun h1 h2 q k => k _ q⟩
theorem call_iter_tup {prog : Program} {w : World} {A : Around} {E : Value → Shared → Prop} {s : Shared} {t : Addr} {items : Array Value} {Q : Value → Shared → Prop} (ht : s.heap.IsTuple t items) (h : Q (.ref s.heap.objs.size) { s with heap := s.heap.push (itTup t 0) }) : wpAny (model prog w) A (call (.builtin "iter") [.ref t]) Q E s := by
  refine Calls.call_function_entry (by decide +kernel) (by decide +kernel) PySem.W.kdk_entry_iter (PySem.W.kdk_args_iter _) ?_
  unfold Builtin.«iter»
  refine wpAny_bind (m := someArgs "iter" 1 2 _) (wpAny_of_eq (a := [Value.ref t]) (by first | rfl | kernel_rfl!) ?_)
  show wpAny _ _ (pyIter (.ref t) >>= _) _ _ _
  refine wpAny_bind (wpAny_pyIter_tuple ht ?_)
  exact wpAny_pure ⟨_, rfl, h⟩
def rIterT (K : PySem.W.Frag) (n : Nat) : List V → Hp → VK → Prop := fun xs H Q => ∃ (l : Addr) (zs : List V), xs = [.ref l] ∧ SqT K H l zs ∧ ∀ it, H it = Option.none → n ≤ it → Q (.ref it) (upd H it (TupO l it 0))
theorem cr_iterT {X : Cx} {K : PySem.W.Frag} {n : Nat} (hK : X.K = K := by rfl) (hn : X.s_0.heap.objs.size = n := by rfl) : CallR X (.builtin "iter") (rIterT K n) := by
  subst hK hn
  intro pins s σ H xs us Q I r h
  obtain ⟨l, zs, rfl, hq, q⟩ := h
  obtain ⟨u, rfl, ru⟩ := vals1 r
  cases ru
  obtain ⟨its, rv, pl, hz⟩ := I.tuple hq
  refine call_iter_tup (show s.heap.IsTuple l its.toArray from pl) ?_
  exact ⟨.ref s.heap.objs.size, _, I.laid (t' := s.toks) (fun b u e => Heap.get?_push_of_some _ e) (Nat.le_refl _) (tupO_ok (Heap.get?_push_size _ rfl)), rfl, q _ (I.hok.fresh (Nat.le_refl _)) I.sz⟩
/-! ### __iter__ that answers iter(self.f), f a tuple: the iterator is young -/
section
variable {P : Program} {w : World} {K : PySem.W.Frag} {mg : Str → Option Value} {base : Heap} {k : Nat} {f : Addr} {fd : FuncData} {N : List Str} {st : Stmt} {fl : Str} {x0 qual : Str}
/-- what is asked of such a def -/
structure IterFn (P : Program) (w : World) (K : PySem.W.Frag) (mg : Str → Option Value) (base : Heap) (k : Nat) (f : Addr) (C : Addr) (fl : Str) : Prop where
  it : PySem.W.findIn K (.ref C) "__iter__" = some (some (.ref f))
  fn : PySem.W.isFn K (.ref f) = true
  run : ∀ (A : Around) (outer : List Env) (s : Shared) (H : Hp) (x dx : Addr) (fs : List (Str × V)) (a : Addr) (zs : List V), Room k A → Env0 P w K mg base A outer s H → H x = some (.ins C dx fs) → fs.lookup fl = some (.ref a) → SqT K H a zs →
    codeAny (model P w) A (.call (.ref f) ⟨[.ref x], []⟩) (CR CX0 outer P w H s (fun v H' => ∃ it, v = .ref it ∧ s.heap.objs.size ≤ it ∧ H it = none ∧ H' = upd H it (TupO a it 0)) E0) s
theorem iter_mk {C : Addr} (F : Fun K x0 qual st f fd) (S : FnScope N ["self"] (defScope st)) (hi : PySem.W.findIn K (.ref C) "__iter__" = some (some (.ref f))) (hfn : PySem.W.isFn K (.ref f) = true) (cl : Cls K C) (na : NoAttr K C fl) (hN : N = (["self"] : List Str))
    (hb : Binds K fd ["self"] [])
    (hbody : ∀ (cdv : Value) (A : Around) (outer : List Env) (s : Shared) (H : Hp), Room k (A.deeper (envOfC qual (defScope st) s.heap.objs.size f cdv)) →
      PSs (cxOf CX0 P w K mg base N qual (defScope st) f cdv A outer s H E0).nox (defBody st) (tRet (tCB (rIterT K s.heap.objs.size) (tCons (tFld K (tVar 0) fl) tNil)))) : IterFn P w K mg base (k + 1) f C fl := by
  obtain ⟨oc, od, kV, doc, pm, an, cdv, ct, osl, rfl, lk, hcd⟩ := F.ex
  refine ⟨hi, hfn, fun A outer s H x dx fs a zs hr e0 hx hf hz => ?_⟩
  have KX : K.In s.heap := e0.mod.kin.keeps fun b o e => (e0.bs b o e).1
  have lim : s.heap.NoLimit := e0.mod.nolimit.keeps fun b o e => (e0.bs b o e).1
  have hkind : ∀ y ∈ (["self"] : List Str).zip [Value.ref x], (defScope st).names.lookup y.1 = some .local ∨ ((defScope st).names.lookup y.1 = some .cell ∧ ((cellsFrom (s.heap.objs.size + 1) (defScope st).names []).lookup y.1).isSome = true) := fun ⟨n, v⟩ hy => by
    rcases S.par n (List.of_mem_zip hy).1 with q | q
    · exact .inl q
    · exact .inr ⟨q, PySem.W.cellsFrom_some _ _ _ (.inl q)⟩
  have bd := hb s [.ref x] KX rfl
  rw [List.append_nil] at bd
  refine codeAny_call_function hr.depth (KX _ _ lk) rfl S.co S.gen rfl (PySem.W.codeRec_of KX hcd) (bd _ _ _ _ ?_)
  refine wpAny_newFunctionEnv_cells S.kind hkind fun env he s1 x1 => ?_
  subst he
  refine ⟨lim.keeps x1.toInCall.keep, codeAny_func ?_⟩
  have ht := (hbody cdv A outer s H (hr.deeper _)).nox
  have I : Inv (cxOf CX0 P w K mg base N qual (defScope st) f cdv A outer s H E0) [] (start N [.ref x]) H s1 := inv_start S hr.hd e0 rfl (.cons rfl .nil) x1
  have hq : tRet (tCB (rIterT K s.heap.objs.size) (tCons (tFld K (tVar 0) fl) tNil)) { nx := fun _ H' => False, rt := fun v H' => ∃ it, v = .ref it ∧ s.heap.objs.size ≤ it ∧ H it = none ∧ H' = upd H it (TupO a it 0) } (start N [.ref x]) H := by
    subst hN
    exact ⟨.ref x, rfl, x, C, dx, fs, .ref a, rfl, hx, cl, na, hf, a, zs, rfl, hz, fun it hn hle => ⟨it, rfl, hle, hn, rfl⟩⟩
  refine wpAny_mono (ht.run [] s1 (start N [.ref x]) H _ I hq) (fun fl' s' hs => ?_) fun e s' hs => hs
  cases fl' with
  | ret u =>
    obtain ⟨v, σ', H', J, rv, q⟩ := hs
    exact ⟨v, H', J.os, J.bare, J.base, J.hok, rv, q⟩
  | next =>
    obtain ⟨σ', H', J, q⟩ := hs
    exact False.elim q
  | brk =>
    obtain ⟨_, _, _, q⟩ := hs
    exact False.elim q
  | cont =>
    obtain ⟨_, _, _, q⟩ := hs
    exact False.elim q
end
def iOwn (K : PySem.W.Frag) (C : Addr) (fl : Str) (te : TE) : TI := fun σ H R => te σ H fun v H1 => ∃ x dx fs a zs, v = .ref x ∧ H1 x = some (.ins C dx fs) ∧ fs.lookup fl = some (.ref a) ∧ SqT K H1 a zs ∧ R (Itt K a) H1
theorem pi_own {X : Cx} {K : PySem.W.Frag} {tg l : Expr} {tl : TE} {k : Nat} {f C : Addr} {fl : Str} (F : IterFn X.prog X.w X.K X.mg X.base k f C fl) (hr : Room k X.A) (hl : PE X l tl) (hK : X.K = K := by rfl) : PI X tg l (iOwn K C fl tl) := by
  subst hK
  refine ⟨fun pins s σ H R I h => ?_⟩
  refine thn (hl.run pins s σ H _ I h) fun v s1 ⟨y, H1, I1, r1, q1⟩ => ?_
  obtain ⟨x, dx, fs, a, zs, e, hx, hf, hz, q⟩ := q1
  subst e
  cases r1
  obtain ⟨mA, J, _⟩ := ins_get I1.hok hx
  obtain ⟨od, J, _⟩ := J.look
  obtain ⟨m, hF⟩ := I1.fr
  refine PySem.W.owit_iter hF I1.ok.mod.kin J F.it F.fn ?_
  refine wpAny_call (codeAny_mono (F.run X.A X.stack s1 H1 x dx fs a zs hr I1.env0 hx hf hz) fun r s' hq => ?_)
  cases r with
  | error e => exact pass0 pins σ H1 s1 e s' I1 hq
  | ok fl' =>
    cases fl' with
    | ret u =>
      obtain ⟨v, H', I2, rv, it, rfl, hle, hn, rfl⟩ := I1.after hq
      cases rv
      have hg : s'.heap.get? it = some (itTup a 0) := (I2.hok it _ upd_same).1
      have I3 : Inv X pins σ H1 s' := by
        have := ItX.inv_drop I2 (show upd H1 it (TupO a it 0) it = some (.ext _) from upd_same)
        rwa [ItX.dropH_upd hn] at this
      have ti : s'.heap.IsTupleIter it a 0 := ⟨_, hg, rfl, rfl⟩
      refine wpAny_specialOf ti.typeIs PySem.F.slot_tuple_iterator_next.lookup ?_
      refine ⟨it, [it], _, _, H1, rfl, I3, turn_tuple a _, ti, fun b hb => ?_, q⟩
      have e : b = it := by simpa using hb
      subst e
      exact I1.fpOk hle hn
    | next => exact False.elim hq
    | brk => exact False.elim hq
    | cont => exact False.elim hq
end Mi

set_option maxHeartbeats 2000000
namespace Mi
open PySem PySem.Spec PyProof.Rows L2 Evl
open Sem (wp)
open AutoSeq1 (wpAny_loadPart')
/-! ### enumerate(t), t a tuple -/
theorem meets_enumT (l : Addr) (items : Array Value) (n : Nat) (dct : Option Addr) (sl : Array (Option Value)) :
    Meets (Builtin.«enumerate.__new__» ⟨[.type "enumerate", .ref l], []⟩) (fun _ R s => s.heap.get? l = some { cls := .type "tuple", dict := dct, data := .seq items n, slots := sl } ∧
      R (.ok (.ret (.ref (s.heap.push (itTup l 0)).objs.size)))
        { s with heap := (s.heap.push (itTup l 0)).push { cls := .type "enumerate", data := .fields #[.none, .bool false, .ref s.heap.objs.size, rawInt 0, .none, .none] } }) :=
  .of_wp fun prog w A R s h => by
    obtain ⟨hp, g, d, tk, os⟩ := s; obtain ⟨hl, h⟩ := h
    have hsub := sub_enumerate
    have hL : Heap.IsTuple (Shared.heap ⟨hp, g, d, tk, os⟩) l items := ⟨_, hl, rfl, n, rfl⟩
    wp_walk using wpAny_loadPart' hl
    refine wpAny_stack_any fun st => wpAny_pure ?_
    split
    · rename_i c _ _ _ _ _
      cases (c == Value.type "enumerate")
      · wp_walk using wpAny_loadPart' hl, wpAny_pyIter_tuple hL
        exact ⟨_, rfl, h⟩
      · wp_walk using wpAny_loadPart' hl, wpAny_pyIter_tuple hL
        exact ⟨_, rfl, h⟩
    · wp_walk using wpAny_loadPart' hl, wpAny_pyIter_tuple hL
      exact ⟨_, rfl, h⟩
theorem call_enumT {prog : Program} {w : World} {A : Around} {E : Value → Shared → Prop} {s : Shared} {l : Addr} {items : Array Value} {Q : Value → Shared → Prop} (hL : s.heap.IsTuple l items)
    (h : ∀ h', IsEnum h' (s.heap.objs.size + 1) s.heap.objs.size 0 .none → h'.IsTupleIter s.heap.objs.size l 0 → h'.objs.size = s.heap.objs.size + 2 →
      (∀ b o, s.heap.get? b = some o → h'.get? b = some o) → Q (.ref (s.heap.objs.size + 1)) { s with heap := h' }) :
    wpAny (model prog w) A (call (.type "enumerate") [.ref l]) Q E s := by
  obtain ⟨⟨c, dct, dt, sl⟩, hl, hc, n, hd⟩ := hL
  replace hc : c = .type "tuple" := hc
  replace hd : dt = .seq items n := hd
  subst hc hd
  refine callType_new PySem.F.called_enumerate (by decide) (PySem.F.typeCall_enumerate_1 _) (PySem.F.newCall_enumerate_1 _) (fun obj => PySem.F.args_object_init_2 obj _) PySem.F.entry_enumerate_new
    (meets_enumT l items n dct sl) ⟨hl, ?_⟩
  have hz : (s.heap.push (itTup l 0)).objs.size = s.heap.objs.size + 1 := Heap.size_push ..
  show _ ∧ _
  rw [hz]
  have he : IsEnum ((s.heap.push (itTup l 0)).push
      { cls := .type "enumerate", data := .fields #[.none, .bool false, .ref s.heap.objs.size, rawInt 0, .none, .none] }) (s.heap.objs.size + 1) s.heap.objs.size 0 .none := by
    have := Heap.get?_push_size (s.heap.push (itTup l 0))
      (o := { cls := .type "enumerate", data := .fields #[.none, .bool false, .ref s.heap.objs.size, rawInt 0, .none, .none] }) rfl
    rw [hz] at this; exact this
  refine ⟨⟨_, he, rfl⟩, h _ he ⟨_, Heap.get?_push_of_some _ (Heap.get?_push_size _ rfl), rfl, rfl⟩ (by rw [Heap.size_push, hz]) fun b o x => Heap.get?_push_of_some _ (Heap.get?_push_of_some _ x)⟩
def IteT (K : PySem.W.Frag) (a : Addr) : It :=
  ⟨fun i H => ∃ (xs : List V) (x : V), SqT K H a xs ∧ xs[i]? = some x, fun i H v H' => ∃ T x, v = .ref T ∧ H T = none ∧ H' = upd H T (.tup [.int (i : Nat), x]) ∧ ∀ xs, SqT K H a xs → xs[i]? = some x, fun i H => ∃ xs : List V, SqT K H a xs ∧ xs.length ≤ i⟩
theorem turn_enumT {P : Program} {w : World} {K : PySem.W.Frag} {elts : List Expr} {kk : Nat} {tpos : Pos} (a e it : Addr) :
    Turn P w K (.Tuple elts kk tpos) (IteT K a) [e, it] e (fun i h => (∃ old, IsEnum h e it ((i : Nat) : Int) old) ∧ h.IsTupleIter it a i ∧ e ≠ it ∧ a ≠ it ∧ e ≠ a) where
  mem := by simp
  obj := fun i h st b hb => by
    obtain ⟨⟨old, he⟩, ⟨o, ho, hc, hd⟩, _⟩ := st
    have e' : b = e ∨ b = it := by simpa using hb
    rcases e' with z | z
    · rw [z]; exact ⟨_, he, fun v q => nomatch q⟩
    · rw [z]; exact ⟨o, ho, fun v q => by rw [hd] at q; cases q⟩
  keep := fun i h h' st k => let ⟨⟨old, he⟩, hi, hne⟩ := st; ⟨⟨old, k e (by simp) _ he⟩, hi.at fun o q => k it (by simp) o q, hne⟩
  item := by
    intro X hP hw hK hc i pins s σ H E I hf st hg
    subst hP hw hK
    obtain ⟨⟨old, he⟩, hit, hne, hai, hea⟩ := st
    obtain ⟨xs, x, hq, hx⟩ := hg
    obtain ⟨its, rv, p, hz⟩ := I.tuple hq
    obtain ⟨u, hu, ru⟩ := rv.get hx
    have hel : e < s.heap.objs.size := Heap.lt_size he
    have hil : it < s.heap.objs.size := by obtain ⟨_, q, _⟩ := hit; exact Heap.lt_size q
    have hlt : i < its.toArray.size := by
      have := (List.getElem?_eq_some_iff.mp hu).1
      simpa using this
    refine wpAny_pyNext_enum_itemD (Draws.tuple (A := X.A.in1) (I.ok.hd hc) it a hai its.toArray) he ⟨hit, show s.heap.IsTuple a its.toArray from p⟩ hlt hne (by simp [hne, hea]) fun v h' tk hP ho st' hT hsz hk => ?_
    have ev : v = u := by
      have h1 : its.toArray[i]? = some v := hP
      have h2 : its.toArray[i]? = some u := by simpa using hu
      rw [h1] at h2
      exact Option.some.inj h2
    subst ev
    obtain ⟨hit', _⟩ := st'
    refine ⟨_, rfl, wpAny_letOwnedTupleGo_enum (s := { s with heap := h', toks := tk + 1 }) ho fun h'' he' sb => ?_⟩
    have hT2 : h''.get? s.heap.objs.size = some { cls := .type "tuple", data := .seq #[.int i tk, v] } := (sb.2 _ (Nat.ne_of_gt hel)).trans hT
    have new : ObjOk X.prog X.w (upd H s.heap.objs.size (.tup [.int (i : Nat), x])) h'' s.heap.objs.size (.tup [.int (i : Nat), x]) :=
      ⟨by show 2 ≤ sizeLine; decide, [.int i tk, v], .cons ⟨_, rfl⟩ (.cons ru .nil), ⟨_, hT2, rfl, _, rfl⟩⟩
    have I1 : Inv X pins σ (upd H s.heap.objs.size (.tup [.int (i : Nat), x])) { s with heap := h'', toks := tk + 1 } :=
      I.turnedNew (ch := [e, it]) (fun b ob hb q => (sb.2 b (fun z => hb (by simp [z]))).trans (hk b ob (fun z => hb (by simp [z])) (fun z => hb (by simp [z])) q)) hf (Nat.le_refl _) new
    refine ⟨.ref s.heap.objs.size, _, I1, rfl, ⟨_, x, rfl, I.hok.fresh (Nat.le_refl _), rfl, fun ys hy => by rw [I.tuple_inj hy hq]; exact hx⟩, ⟨⟨v, ?_⟩, hit'.at fun o q => (sb.2 it (Ne.symm hne)).trans q, hne, hai, hea⟩, fun b hb => ?_⟩
    · have e1 : ((i + 1 : Nat) : Int) = (i : Int) + 1 := by omega
      rw [e1]; exact he'
    · have hb' : b < s.heap.objs.size := by
        have e' : b = e ∨ b = it := by simpa using hb
        rcases e' with z | z
        · rw [z]; exact hel
        · rw [z]; exact hil
      rw [upd_ne (Nat.ne_of_lt hb')]
      exact (hf b hb).1
  done := by
    intro X hP hw hK hc i pins s σ H E I hf st hg
    subst hP hw hK
    obtain ⟨⟨old, he⟩, hit, hne, hai, hea⟩ := st
    obtain ⟨xs, hq, hx⟩ := hg
    obtain ⟨its, rv, p, hz⟩ := I.tuple hq
    obtain ⟨f0, f1, f2, f3, f4, f5⟩ := hf it (by simp)
    have hl := rv.length
    have hp : s.heap.IsTuple a its.toArray := p
    have D : Draws X.prog X.w X.A.in1 it [it, a] i (fun _ _ => False) (fun j h => j = i ∧ h.IsTupleIter it a i ∧ h.IsTuple a its.toArray) :=
      { live := fun _ _ st => let ⟨_, ⟨o, ho, _⟩, _⟩ := st; ⟨o, ho⟩
        frame := fun _ _ _ st hk => ⟨st.1, st.2.1.at fun o e => hk it (by simp) o e, st.2.2.at fun o e => hk a (by simp) o e⟩
        item := fun j s Q E hj st _ => absurd st.1 (Nat.ne_of_lt hj)
        done := fun s Q E st hE => wpAny_nextOf_tuple_end (I.ok.hd hc) st.2.1 st.2.2 (by simp; omega) hE }
    exact wpAny_pyNext_enum_endD D he ⟨rfl, hit, hp⟩ fun h' eb => ⟨rfl, I.turned (t' := s.toks) (fun b o hb q => eb b o hb q) f0 f1 f3 f4 f5⟩
  self := fun A i s Q E st h => let ⟨⟨_, he⟩, _⟩ := st; wpAny_pyIter_enum he h
def iEnumT (K : PySem.W.Frag) (ta : TA) : TI := fun σ H R => ta σ H fun vs H1 => ∃ a xs, vs = [.ref a] ∧ SqT K H1 a xs ∧ R (IteT K a) H1
theorem pi_enumT {X : Cx} {K : PySem.W.Frag} {e : Expr} {ta : TA} {p pos tpos : Pos} {elts : List Expr} {kk : Nat} (hg : Gl X "enumerate") (hm : X.mg "enumerate" = none) (ha : PA X [e] ta) (hK : X.K = K := by rfl) (hs : starEach [e] X.env = [(false, eval e X.env)] := by rfl) :
    PI X (.Tuple elts kk tpos) (.Call (.Name "enumerate" p) [e] [] pos) (iEnumT K ta) := by
  subst hK
  refine ⟨fun pins s σ H R I h => ?_⟩
  refine Call_ (ld_blt I hg hm boot_enumerate (PyProof.Rows.callWith_type1 (thn (ha.run pos pins s σ H _ I h) fun us s1 ⟨vs, H1, I1, r1, q1⟩ => ?_) hs rfl))
  obtain ⟨a, xs, ex, hq, q⟩ := q1
  subst ex
  cases r1 with
  | cons r rr =>
    cases rr
    cases r
    obtain ⟨its, rv, p', hz⟩ := I1.tuple hq
    have hal : a < s1.heap.objs.size := by
      obtain ⟨o, e, _⟩ := p'
      exact Heap.lt_size e
    refine call_enumT (show s1.heap.IsTuple a its.toArray from p') fun h' he hit hsz hk => wpAny_pyIter_enum he ?_
    have I2 : Inv X pins σ H1 { s1 with heap := h' } := I1.kept (t' := s1.toks) hk
    refine ⟨s1.heap.objs.size + 1, [s1.heap.objs.size + 1, s1.heap.objs.size], _, _, H1, rfl, I2, turn_enumT a (s1.heap.objs.size + 1) s1.heap.objs.size, ⟨⟨.none, he⟩, hit, Nat.succ_ne_self _, Nat.ne_of_lt hal, Nat.ne_of_gt (Nat.lt_succ_of_lt hal)⟩, fun b hb => ?_, q⟩
    have e' : b = s1.heap.objs.size + 1 ∨ b = s1.heap.objs.size := by simpa using hb
    have hle : s1.heap.objs.size ≤ b := by
      rcases e' with z | z
      · rw [z]; exact Nat.le_add_right _ _
      · rw [z]; exact Nat.le_refl _
    exact I1.fpOk hle (I1.hok.fresh hle)
section
variable {K : PySem.W.Frag} {σ : L2.St} {G A : Hp} {te tl : TE} {d d1 d2 d3 : Dd} {d0 : V} {ds : List Dd} {v : V}
theorem if_enumT (h : Ef K tl σ G (.U ds)) : Itf K (iEnumT K (tCons tl tNil)) σ G (ds.zipIdx.map fun p => Dd.U [.i (p.2 : Int), p.1]) := fun G1 A e1 e2 R r =>
  h G1 A e1 e2 _ fun v G2 A2 s ⟨p, vs, ep, hp, hE⟩ => by
    subst ep
    refine ⟨p, vs, rfl, ex_t s.v hp, r _ G2 A2 s fun i G' A' e3 e4 => ⟨fun d hd => ?_, fun hi => ?_⟩⟩
    · rw [List.getElem?_map, List.getElem?_zipIdx] at hd
      cases hx : ds[i]? with
      | none => rw [hx] at hd; cases hd
      | some x =>
        rw [hx] at hd
        have ed : Dd.U [.i (((0 + i : Nat)) : Int), x] = d := Option.some.inj hd
        rw [Nat.zero_add] at ed
        obtain ⟨y, hy, z⟩ := isE_at hE hx
        refine ⟨⟨vs, y, ex_t (e3.trans e4) hp, hy⟩, fun w A'' hyl => ?_⟩
        obtain ⟨T, x', rfl, hT, rfl, hall⟩ := hyl
        have ev := (hall vs (ex_t (e3.trans e4) hp)).symm.trans hy
        rw [Option.some.inj ev, ← ed]
        refine ⟨_, .new e4 hT, T, [.int (i : Int), y], rfl, st_of upd_same, .int (i : Int), [y], rfl, rfl, y, [], rfl, (z.mono e3).mono (Ex.new (ex_out e4 hT)), rfl⟩
    · rw [List.length_map, List.length_zipIdx] at hi
      exact ⟨vs, ex_t (e3.trans e4) hp, by rw [← isE_len hE]; omega⟩
/-- i, (a, b) -/
theorem g_nest {j0 j1 j2 : Nat} {Q : L2.St → Hp → Prop} (hA : Ex G A) (h : Is K G (.U [.v d0, .U [d1, d2]]) v) (k : ∀ v1 v2, Is K G d1 v1 → Is K G d2 v2 → Q (((σ.set j0 (some d0)).set j1 (some v1)).set j2 (some v2)) A) :
    gTup K 2 (gCons (gName j0) (gCons (gTup K 2 (gCons (gName j1) (gCons (gName j2) gNil))) gNil)) v σ A Q := by
  obtain ⟨T, vs, rfl, hT, x, r, rfl, hx, y, r2, rfl, hy, hr⟩ := h
  have er : r2 = [] := hr
  subst er
  obtain rfl : x = d0 := hx
  exact ⟨T, [x, y], rfl, ex_t hA hT, rfl, x, [y], rfl, y, [], rfl, g_two hA hy fun v1 v2 h1 h2 => ⟨rfl, k v1 v2 h1 h2⟩⟩
/-- a walk over an object whose __iter__ answers iter(self.f) -/
theorem if_own {C : Addr} {fl : Str} (h : ∀ G1 A, Ex G G1 → Ex G1 A → ∀ Q : VK, (∀ x dx fs a, A x = some (.ins C dx fs) → fs.lookup fl = some (.ref a) → Is K G1 (.U ds) (.ref a) → Q (.ref x) A) → te σ A Q) : Itf K (iOwn K C fl te) σ G ds := fun G1 A e1 e2 R r =>
  h G1 A e1 e2 _ fun x dx fs a hx hf ⟨p, vs, ep, hp, hE⟩ => by
    cases ep
    refine ⟨x, dx, fs, a, vs, rfl, hx, hf, ex_t e2 hp, r _ G1 A (.refl e2) fun i G' A' e3 e4 => ⟨fun d hd => ?_, fun hi => ⟨vs, ex_t (e3.trans e4) hp, by rw [← isE_len hE]; omega⟩⟩⟩
    obtain ⟨y, hy, z⟩ := isE_at hE hd
    refine ⟨⟨vs, y, ex_t (e3.trans e4) hp, hy⟩, fun v A'' hyl => ?_⟩
    obtain ⟨rfl, hall⟩ := hyl
    have ev := (hall vs (ex_t (e3.trans e4) hp)).symm.trans hy
    rw [Option.some.inj ev]
    exact ⟨G', .refl e4, z.mono e3⟩
end
theorem ps_never {X : Cx} {st : Stmt} : PS X st (fun _ _ _ => False) := ⟨fun _ _ _ _ _ _ h => False.elim h⟩
end Mi

set_option maxHeartbeats 2000000
namespace Mi
open PySem PySem.Spec PyProof.Rows L2 Evl
section
variable {K : PySem.W.Frag} {σ : L2.St} {G A : Hp} {te tk tv : TE} {t : TT} {wi : TI} {g : TG} {d : Dd} {D : Ends} {tz : TS}
theorem s_drop (h : Ef K te σ G d) (hA : Ex G A) (k : ∀ v G' A', Step G A G' A' → Is K G' d v → tz D σ A') : tSeq (tDrop te) tz D σ A := h G A (Ex.refl G) hA _ fun v G' A' s z => k v G' A' s z
/-- a dict comprehension: what it holds is not told -/
theorem ef_dc {α : Type} {its : List α} {inj : α → Dd} {vs : List Nat} (h : Itf K wi σ G (its.map inj)) (hz : its.length ≤ 50000)
    (hs : ∀ (i : Nat) x v G' A', Ex G G' → Ex G' A' → its[i]? = some x → Is K G' (inj x) v → ∃ σ2, (∀ Q : L2.St → Hp → Prop, Q σ2 A' → g v (wipe σ vs) A' Q) ∧ wipe σ2 vs = wipe σ vs ∧ ∃ (k : Key) (z : V), Er K tk σ2 A' (.v (kV k)) ∧ Er K tv σ2 A' (.v z)) :
    Ef K (tDc wi g tYes tk tv vs) σ G .D := fun G0 A0 e0 ea0 Q q =>
  h G0 A0 e0 ea0 _ fun J G1 A1 s1 hw => fun Dl hD => by
    have gD := ex_out s1.v hD
    refine ⟨fun i m A' => m = its.length - i ∧ i ≤ its.length ∧ ∃ G', Step G1 A1 G' A' ∧ G' Dl = none ∧ ∃ kvs, A' Dl = some (.dK kvs) ∧ kvs.length ≤ i, ⟨_, rfl, Nat.zero_le _, G1, .on s1.v (Ex.new hD), gD, [], upd_same, Nat.le_refl _⟩, ?_⟩
    rintro i m A' ⟨rfl, hi, G', st, hg, kvs, hu, hl⟩
    by_cases hlt : i < its.length
    · have hx : its[i]? = some its[i] := List.getElem?_eq_getElem hlt
      have hd' : (its.map inj)[i]? = some (inj its[i]) := by rw [List.getElem?_map, hx]; rfl
      obtain ⟨go, yl⟩ := (hw i G' A' st.g st.v).1 _ hd'
      refine .inr ⟨go, fun A3 => ∃ G3, Step G1 A1 G3 A3 ∧ G3 Dl = none ∧ ∃ kvs, A3 Dl = some (.dK kvs) ∧ kvs.length ≤ i + 1, fun A3 p3 => ⟨its.length - (i + 1), by omega, rfl, hlt, p3⟩, fun v A'' y => ?_⟩
      obtain ⟨G2, s2, z⟩ := yl v A'' y
      have uN : A' Dl ≠ none := by rw [hu]; simp
      have g2 := s2.f Dl uN hg
      have u2 := s2.a Dl _ hu
      obtain ⟨σ2, hgt, hwp, k, zv, htk, htv⟩ := hs i _ v G2 A'' ((e0.trans s1.g).trans (st.g.trans s2.g)) s2.v hx z
      refine hgt _ ⟨hwp, ?_⟩
      unfold tYes
      dsimp only
      rw [if_pos rfl]
      refine htk A'' (Ex.refl _) _ fun w A3 e3 zw => ?_
      refine htv A3 e3 _ fun w2 A4 e4 zw2 => ?_
      have s4 := (st.trans s2).trans (Step.on s2.v (e3.trans e4))
      refine ⟨kvs, k, zw, e4 Dl _ (e3 Dl _ u2), sz_lt (by omega), G2, s4.grow hD g2, g2, _, upd_same, ?_⟩
      have := length_putK kvs k w2
      omega
    · have e : i = its.length := by omega
      subst e
      refine .inl ⟨(hw _ G' A' st.g st.v).2 (by rw [List.length_map]), q _ (upd G' Dl (.dK kvs)) A' (s1.trans (st.seal hD hg hu)) ⟨Dl, kvs, rfl, upd_same⟩⟩
end
/-! ### a stock -/
abbrev prD (sts : List (List Nat × List Nat)) : List Dd := sts.map fun p => Dd.U [.s (S p.1), .s (S p.2)]
def stFlds (n : Int) (ps dd : Addr) : List (Str × V) := putF "_stamp_of" (.ref dd) (putF "stamps" (.ref ps) (putF "size" (.int n) []))
theorem ne_ss : ¬ (("size" : Str) = "stamps") := by decide +kernel
theorem ne_so : ¬ (("size" : Str) = "_stamp_of") := by decide +kernel
theorem ne_to : ¬ (("stamps" : Str) = "_stamp_of") := by decide +kernel
theorem stFlds_size (n : Int) (ps dd : Addr) : (stFlds n ps dd).lookup ("size" : Str) = some (.int n) := by
  unfold stFlds
  rw [lookup_putF, if_neg ne_so, lookup_putF, if_neg ne_ss, lookup_putF, if_pos rfl]
theorem stFlds_stamps (n : Int) (ps dd : Addr) : (stFlds n ps dd).lookup ("stamps" : Str) = some (.ref ps) := by
  unfold stFlds
  rw [lookup_putF, if_neg ne_to, lookup_putF, if_pos rfl]
def stockD (K : PySem.W.Frag) (C : Addr) (n : Int) (sts : List (List Nat × List Nat)) : Dd := .P ⟨fun H y => ∃ x dx ps dd kvs, y = .ref x ∧ H x = some (.ins C dx (stFlds n ps dd)) ∧ Is K H (.U (prD sts)) (.ref ps) ∧ H dd = some (.dK kvs), by
  rintro H H' y e ⟨x, dx, ps, dd, kvs, rfl, h1, h2, h3⟩
  exact ⟨x, dx, ps, dd, kvs, rfl, e x _ h1, h2.mono e, e dd _ h3⟩⟩
section
variable {K : PySem.W.Frag} {σ : L2.St} {G A : Hp} {te : TE} {C : Addr} {n : Int} {sts : List (List Nat × List Nat)} {x : V} {i : Nat}
/-- stock.stamps -/
theorem ef_stamps (cl : Cls K C) (na : NoAttr K C "stamps") (h : Ef K te σ G (stockD K C n sts)) : Ef K (tFld K te "stamps") σ G (.U (prD sts)) := fun G1 A e1 e2 Q q =>
  h G1 A e1 e2 _ fun v G2 A2 s ⟨x, dx, ps, dd, kvs, ev, h1, h2, h3⟩ => by
    subst ev
    exact ⟨x, C, dx, _, .ref ps, rfl, s.v x _ h1, cl, na, stFlds_stamps n ps dd, q _ G2 A2 s h2⟩
/-- for .. in stock, the stock in slot i -/
theorem if_stock (hx : σ[i]? = some (some x)) (h : Is K G (stockD K C n sts) x) : Itf K (iOwn K C "stamps" (tVar i)) σ G (prD sts) := if_own fun G1 A e1 e2 Q q => by
  obtain ⟨x0, dx, ps, dd, kvs, rfl, h1, h2, h3⟩ := h
  exact ⟨.ref x0, hx, q x0 dx _ ps (e2 x0 _ (e1 x0 _ h1)) (stFlds_stamps n ps dd) (h2.mono e1)⟩
end
end Mi

set_option maxHeartbeats 2000000
namespace Mi
open PySem PySem.Spec PyProof.Rows L2 Evl
/-! ### lists and tuples of texts compared -/
section
variable {K : PySem.W.Frag} {H : Hp}
theorem dpAll_strs : ∀ ys : List (List Nat), DpAll K H (vsl ys) (ys.map fun l => PyData.str (S l))
  | [] => .nil
  | n :: r => .cons (.str (S n)) (dpAll_strs r)
theorem eqv_strs : ∀ xs ys : List (List Nat), PyData.eqvAll (xs.map fun l => PyData.str (S l)) (ys.map fun l => PyData.str (S l)) = decide (xs = ys)
  | [], [] => by simp [PyData.eqvAll]
  | [], _ :: _ => by simp [PyData.eqvAll]
  | _ :: _, [] => by simp [PyData.eqvAll]
  | a :: r, b :: t => by
    simp only [List.map_cons, PyData.eqvAll, PyData.eqv, eqv_strs r t]
    by_cases h : a = b
    · by_cases h' : r = t <;> simp [h, h']
    · have h2 : ¬ (S a = S b) := fun e => h (S_inj e)
      simp [h, h2]
def okT (l : List Nat) : Prop := PyData.strOk (S l) = true
theorem canLay_strs : ∀ ys : List (List Nat), (∀ l ∈ ys, okT l) → PyData.canLayAll0 (ys.map fun l => PyData.str (S l)) = true ∧ PyData.depthAll (ys.map fun l => PyData.str (S l)) = 0
  | [], _ => ⟨by simp [PyData.canLayAll0], by simp [PyData.depthAll]⟩
  | a :: r, h => by
    obtain ⟨h1, h2⟩ := canLay_strs r fun l hl => h l (List.mem_cons_of_mem _ hl)
    have h0 : PyData.strOk (S a) = true := h a (List.mem_cons_self ..)
    refine ⟨?_, ?_⟩
    · simp only [List.map_cons, PyData.canLayAll0, PyData.canLay0, h0, h1, Bool.and_self]
    · simp only [List.map_cons, PyData.depthAll, PyData.depth, h2]
      rfl
theorem shaped_strs {ys : List (List Nat)} (h : ∀ l ∈ ys, okT l) : SeqAt.shaped (.list (ys.map fun l => PyData.str (S l))) = true ∧ SeqAt.shaped (.tuple (ys.map fun l => PyData.str (S l))) = true := by
  obtain ⟨h1, h2⟩ := canLay_strs ys h
  simp [SeqAt.shaped, PyData.canLay0, PyData.depth, h1, h2]
theorem ro_eqLs {xs ys : List (List Nat)} (hx : ∀ l ∈ xs, okT l) (hy : ∀ l ∈ ys, okT l) : Ro K (rEqD K) (.l (vsl xs)) (.l (vsl ys)) (.v (.bl (decide (xs = ys)))) := by
  rintro _ _ H1 ⟨p, rfl, hp⟩ ⟨p', rfl, hp'⟩ Q q
  refine ⟨_, _, .lst hp (dpAll_strs xs), .lst hp' (dpAll_strs ys), (shaped_strs hx).1, (shaped_strs hy).1, q _ H1 (Ex.refl H1) ?_⟩
  show V.bl (PyData.eqvAll _ _) = _
  rw [eqv_strs]
theorem ro_neLs {xs ys : List (List Nat)} (hx : ∀ l ∈ xs, okT l) (hy : ∀ l ∈ ys, okT l) : Ro K (rNeD K) (.l (vsl xs)) (.l (vsl ys)) (.v (.bl (!decide (xs = ys)))) := by
  rintro _ _ H1 ⟨p, rfl, hp⟩ ⟨p', rfl, hp'⟩ Q q
  refine ⟨_, _, .lst hp (dpAll_strs xs), .lst hp' (dpAll_strs ys), (shaped_strs hx).1, (shaped_strs hy).1, q _ H1 (Ex.refl H1) ?_⟩
  show V.bl (!PyData.eqvAll _ _) = _
  rw [eqv_strs]
theorem ro_eqUs {xs ys : List (List Nat)} (hx : ∀ l ∈ xs, okT l) (hy : ∀ l ∈ ys, okT l) : Ro K (rEqD K) (.u (vsl xs)) (.u (vsl ys)) (.v (.bl (decide (xs = ys)))) := by
  rintro _ _ H1 ⟨p, rfl, hp⟩ ⟨p', rfl, hp'⟩ Q q
  refine ⟨_, _, .tup hp (dpAll_strs xs), .tup hp' (dpAll_strs ys), (shaped_strs hx).2, (shaped_strs hy).2, q _ H1 (Ex.refl H1) ?_⟩
  show V.bl (PyData.eqvAll _ _) = _
  rw [eqv_strs]
/-! ### pairs of texts -/
def prP (p : List Nat × List Nat) : PyData := .tuple [.str (S p.1), .str (S p.2)]
theorem dpAll_prs : ∀ {sts : List (List Nat × List Nat)} {vs : List V}, IsE K H (prD sts) vs → DpAll K H vs (sts.map prP)
  | [], vs, h => by rw [show vs = [] from h]; exact .nil
  | p :: r, vs, h => by
    obtain ⟨x, rs, rfl, ⟨T, us, rfl, hT, y1, r1, rfl, hy1, y2, r2, rfl, hy2, hr2⟩, b⟩ := h
    have er : r2 = [] := hr2
    subst er
    obtain rfl : y1 = V.str (S p.1) := hy1
    obtain rfl : y2 = V.str (S p.2) := hy2
    exact .cons (.tup hT (.cons (.str _) (.cons (.str _) .nil))) (dpAll_prs b)
theorem eqv_prs_refl : ∀ sts : List (List Nat × List Nat), PyData.eqvAll (sts.map prP) (sts.map prP) = true
  | [] => by simp [PyData.eqvAll]
  | p :: r => by
    simp only [List.map_cons, PyData.eqvAll, PyData.eqv, prP, eqv_prs_refl r]
    simp [PyData.eqvAll, PyData.eqv]
theorem canLay_prs : ∀ sts : List (List Nat × List Nat), (∀ p ∈ sts, okT p.1 ∧ okT p.2) → PyData.canLayAll0 (sts.map prP) = true ∧ PyData.depthAll (sts.map prP) ≤ 1
  | [], _ => ⟨by simp [PyData.canLayAll0], by simp [PyData.depthAll]⟩
  | p :: r, h => by
    obtain ⟨h1, h2⟩ := canLay_prs r fun l hl => h l (List.mem_cons_of_mem _ hl)
    obtain ⟨a1, a2⟩ := h p (List.mem_cons_self ..)
    have b1 : PyData.strOk (S p.1) = true := a1
    have b2 : PyData.strOk (S p.2) = true := a2
    refine ⟨?_, ?_⟩
    · simp only [List.map_cons, PyData.canLayAll0, PyData.canLay0, prP, b1, b2, h1, Bool.and_self]
    · simp only [List.map_cons, PyData.depthAll, PyData.depth, prP]
      omega
theorem ro_eqPr {sts : List (List Nat × List Nat)} (h : ∀ p ∈ sts, okT p.1 ∧ okT p.2) : Ro K (rEqD K) (.U (prD sts)) (.U (prD sts)) (.b true) := by
  rintro _ _ H1 ⟨p, vs, rfl, hp, hE⟩ ⟨p', vs', rfl, hp', hE'⟩ Q q
  obtain ⟨h1, h2⟩ := canLay_prs sts h
  have sh : SeqAt.shaped (.tuple (sts.map prP)) = true := by
    simp [SeqAt.shaped, PyData.canLay0, PyData.depth, h1]
    omega
  refine ⟨_, _, .tup hp (dpAll_prs hE), .tup hp' (dpAll_prs hE'), sh, sh, q _ H1 (Ex.refl H1) ?_⟩
  show V.bl (PyData.eqvAll _ _) = _
  rw [eqv_prs_refl]
end
section
variable {K : PySem.W.Frag} {σ : L2.St} {G : Hp} {ta tb : TE} {tr : TA} {d1 d2 : Dd} {C : Addr} {n : Nat} {sts : List (List Nat × List Nat)}
theorem ef_call2 {T : Type} {pre : T → Prop} {args : T → List Dd} {ret : T → Dd} (a : T) (h1 : Ef K ta σ G d1) (h2 : Ef K tb σ G d2) (hd : [d2, d1] = args a) (hp : pre a) : Ef K (tCall2 (spF K pre args ret) ta tb) σ G (ret a) := fun G1 A e1 e2 Q q =>
  h1 G1 A e1 e2 _ fun v1 G2 A2 s z1 => h2 G2 A2 (e1.trans s.g) s.v _ fun v2 G3 A3 s3 z2 => ⟨v1, v2, rfl, a, hp, G3, s3.v, hd ▸ .cons z2 (.cons (z1.mono s3.g) .nil), fun v G4 A4 s4 z => q v G4 A4 ((s.trans s3).trans s4) z⟩
end
end Mi
namespace Mi
open PySem PySem.Spec PyProof.Rows L2 Evl
theorem okT_of {l : List Nat} (h : ∀ c ∈ l, c < 1114112) : okT l := by
  unfold okT PyData.strOk
  rw [← Array.all_toList]
  show l.all _ = true
  rw [List.all_eq_true]
  exact fun c hc => decide_eq_true (h c hc)
section
variable {K : PySem.W.Frag} {σ : L2.St} {H H' : Hp} {te ta tb : TE} {tr : TA} {d1 d2 : Dd} {ds : List Dd} {D : Ends} {tz : TS} {C : Addr} {n : Nat} {sts : List (List Nat × List Nat)}
theorem er_callF {T : Type} {pre : T → Prop} {args : T → List Dd} {ret : T → Dd} {E : XK} (a : T) (h : Era K tr σ H ds) (hd : ds = args a) (hp : pre a) : Er K (tCall (spF K pre args ret) [] E tr) σ H (ret a) := fun H1 e Q q =>
  h H1 e _ fun vs H2 e2 z => by
    rw [List.append_nil]
    exact ⟨a, hp, H2, Ex.refl _, hd ▸ z, fun v G' A' s z3 => q v A' (e2.trans s.a) (z3.mono s.v)⟩
theorem er_call2F {T : Type} {pre : T → Prop} {args : T → List Dd} {ret : T → Dd} (a : T) (h1 : Er K ta σ H d1) (h2 : Er K tb σ H d2) (hd : [d2, d1] = args a) (hp : pre a) : Er K (tCall2 (spF K pre args ret) ta tb) σ H (ret a) := fun H1 e Q q =>
  h1 H1 e _ fun v1 H2 e2 z1 => h2 H2 (e.trans e2) _ fun v2 H3 e3 z2 => ⟨v1, v2, rfl, a, hp, H3, Ex.refl _, hd ▸ .cons z2 (.cons (z1.mono e3) .nil), fun v G' A' s z => q v A' ((e2.trans e3).trans s.a) (z.mono s.v)⟩
/-- a new list that is written out and will grow -/
theorem a_newL {i : Nat} {vs : List V} (h : Era K tr σ H (vs.map Dd.v)) (hl : vs.length ≤ 100000) (k : ∀ p H1, H p = none → Ex H H1 → H1 p = some (.lst vs) → tz D (σ.set i (some (.ref p))) H1) : tSeq (tAsg (tLst tr) (gName i)) tz D σ H :=
  h H (Ex.refl H) _ fun ws H2 e2 z => by
    have ew := flat_all z
    subst ew
    exact ⟨sz_of hl, fun p hp => k p _ (fresh_back e2 hp) (e2.trans (Ex.new hp)) upd_same⟩
theorem uS {xs : List (List Nat)} {v : V} (h : Is K H (.U (xs.map fun l => Dd.s (S l))) v) : Is K H (.u (vsl xs)) v := by
  refine Is.U2u (xs := vsl xs) ?_
  rw [vsl, vss, List.map_map, List.map_map]
  exact h
theorem nS {xs : List (List Nat)} {v : V} (h : Is K H (.N (xs.map fun l => Dd.s (S l))) v) : Is K H (.n (vsl xs)) v := by
  refine Is.N2n (xs := vsl xs) ?_
  rw [vsl, vss, List.map_map, List.map_map]
  exact h
end
/-- some texts of one length -/
def layersD (K : PySem.W.Frag) (n : Nat) : Dd := .P ⟨fun H y => ∃ L : List (List Nat), (∀ l ∈ L, l.length = n) ∧ 1 ≤ L.length ∧ L.length ≤ 50 ∧ Is K H (.n (vsl L)) y, by
  rintro H H' y e ⟨L, h1, h2, h3, h4⟩
  exact ⟨L, h1, h2, h3, h4.mono e⟩⟩
end Mi

set_option maxHeartbeats 2000000
namespace Mi
open PySem PySem.Spec PyProof.Rows L2 Evl
/-! ### things of any kind: texts, nested lists and tuples, dicts, an object -/
section
variable {K : PySem.W.Frag} {H H' : Hp}
mutual
theorem dp_mono (e : Ex H H') : ∀ {x : V} {d : PyData}, Dp K H x d → Dp K H' x d
  | _, _, .non => .non
  | _, _, .bl b => .bl b
  | _, _, .int i => .int i
  | _, _, .str x => .str x
  | _, _, .lst h hs => .lst (ex_l e h) (dpAll_mono e hs)
  | _, _, .tup h hs => .tup (ex_t e h) (dpAll_mono e hs)
theorem dpAll_mono (e : Ex H H') : ∀ {xs : List V} {ds : List PyData}, DpAll K H xs ds → DpAll K H' xs ds
  | _, _, .nil => .nil
  | _, _, .cons a b => .cons (dp_mono e a) (dpAll_mono e b)
end
def datV : V → PyData
  | .bl b => .bool b
  | .int i => .int i
  | .str x => .str x
  | _ => .none
def goodV : V → Bool
  | .non => true
  | .bl _ => true
  | .int _ => true
  | .str _ => true
  | _ => false
mutual
def datD : Dd → PyData
  | .v x => datV x
  | .N ds => .list (datL ds)
  | .U ds => .tuple (datL ds)
  | _ => .none
def datL : List Dd → List PyData
  | [] => []
  | d :: r => datD d :: datL r
end
mutual
def goodD : Dd → Bool
  | .v x => goodV x
  | .N ds => goodL ds
  | .U ds => goodL ds
  | _ => false
def goodL : List Dd → Bool
  | [] => true
  | d :: r => goodD d && goodL r
end
theorem dp_v : ∀ {x : V}, goodV x = true → Dp K H x (datV x)
  | .non, _ => .non
  | .bl b, _ => .bl b
  | .int i, _ => .int i
  | .str z, _ => .str z
  | .byt _, h => by cases h
  | .flt _, h => by cases h
  | .ref _, h => by cases h
  | .ty _, h => by cases h
mutual
theorem dp_of : ∀ {d : Dd} {x : V}, goodD d = true → Is K H d x → Dp K H x (datD d)
  | .v y, x, g, h => by
    obtain rfl : x = y := h
    exact dp_v g
  | .N ds, x, g, h => by
    obtain ⟨p, vs, rfl, hp, hE⟩ := h
    exact .lst (sq_of hp) (dpAll_of g hE)
  | .U ds, x, g, h => by
    obtain ⟨p, vs, rfl, hp, hE⟩ := h
    exact .tup hp (dpAll_of g hE)
  | .D, _, g, _ => by cases g
  | .P _, _, g, _ => by cases g
  | .l _, _, g, _ => by cases g
  | .n _, _, g, _ => by cases g
  | .u _, _, g, _ => by cases g
  | .L _, _, g, _ => by cases g
theorem dpAll_of : ∀ {ds : List Dd} {xs : List V}, goodL ds = true → IsE K H ds xs → DpAll K H xs (datL ds)
  | [], xs, _, h => by
    rw [show xs = [] from h]
    exact .nil
  | d :: r, xs, g, h => by
    obtain ⟨x, rs, rfl, a, b⟩ := h
    have g2 : (goodD d && goodL r) = true := g
    rw [Bool.and_eq_true] at g2
    exact .cons (dp_of g2.1 a) (dpAll_of g2.2 b)
end
inductive Th where
  | t (l : List Nat)
  | c (d : Dd)
  | k (ks : List (Key × V))
  | o
def ThOk : Th → Prop
  | .t l => l.length ≤ 1000
  | .c d => goodD d = true ∧ (tyN d ≠ "?" ∧ tyN d ≠ "str") ∧ PyData.canLay0 (datD d) = true ∧ PyData.depth (datD d) ≤ 8
  | .k ks => ∀ p ∈ ks, valV ks p.1 = some p.2 ∧ flatB p.2 = true
  | .o => True
def thD (C : Addr) : Th → Dd
  | .t l => .s (S l)
  | .c d => d
  | .k ks => .P ⟨fun H x => ∃ a, x = .ref a ∧ H a = some (.dK ks), by rintro H H' x e ⟨a, rfl, h⟩; exact ⟨a, rfl, e a _ h⟩⟩
  | .o => .P ⟨fun H x => ∃ a dx fs, x = .ref a ∧ H a = some (.ins C dx fs), by rintro H H' x e ⟨a, dx, fs, rfl, h⟩; exact ⟨a, dx, fs, rfl, e a _ h⟩⟩
/-- what isinstance reads of the class C -/
structure ObTy (K : PySem.W.Frag) (C : Addr) : Prop where
  cl : Cls K C
  fc : PySem.W.findIn K (.ref C) "__class__" = some (some (.builtin "object.__class__"))
  sp : PySem.W.specialIn K (.builtin "object.__class__") "__get__" = some (some (.builtin "getset_descriptor.__get__"))
  tk : PySem.W.takesIn K (.builtin "object.__class__") = some true
  mr : PySem.W.mroIn K C (.type "object") = some true
  no : PySem.W.kitOne K (.ref C) (.type "str") = some false
def isT : Th → Bool
  | .t _ => true
  | _ => false
def txT : Th → List Nat
  | .t l => l
  | _ => []
theorem rc_isiTh {C : Addr} (O : ObTy K C) : ∀ {th : Th}, ThOk th → Rc K (rIsi K) [thD C th, .v (.ty "str")] (.b (isT th))
  | .t l, _ => rc_isi_str (b := true) (by decide +kernel)
  | .c d, h => rc_isiD h.2.1.1 (by
    have h2 := h.2.1.2
    show kitB (tyN d) "str" = some false
    rcases tyN_cases h.2.1.1 with e | e | e | e | e | e | e
    · rw [e]; decide +kernel
    · rw [e]; decide +kernel
    · rw [e]; decide +kernel
    · exact absurd e h2
    · rw [e]; decide +kernel
    · rw [e]; decide +kernel
    · rw [e]; decide +kernel)
  | .k ks, _ => rc_isi (.type "dict") (fun H1 v z => by obtain ⟨a, rfl, h⟩ := z; exact .base (.dK h)) (b := false) (kit_ty (by decide +kernel))
  | .o, _ => rc_isi (.ref C) (fun H1 v z => by obtain ⟨a, dx, fs, rfl, h⟩ := z; exact .base (.ins h O.cl O.fc O.sp O.tk O.mr)) O.no
theorem is_text {C : Addr} : ∀ {th : Th} {x : V}, isT th = true → Is K H (thD C th) x → x = .str (S (txT th))
  | .t l, _, _, h => h
  | .c _, _, h, _ => by cases h
  | .k _, _, h, _ => by cases h
  | .o, _, h, _ => by cases h

/-! ### == of lists of such things -/
def EqI (K : PySem.W.Frag) (H : Hp) (x y : V) : Prop := (x = y ∧ flatB x = true) ∨ (∃ d, Dp K H x d ∧ Dp K H y d ∧ PyData.canLay0 d = true ∧ PyData.depth d ≤ 8) ∨ EqV K H 3 x y
def rEqZ (K : PySem.W.Frag) : R2 := fun x y H Q => ∃ a b xs ys, x = .ref a ∧ y = .ref b ∧ SqL K H a xs ∧ SqL K H b ys ∧ Paired (EqI K H) xs ys ∧ Q (.bl true) H
theorem op_eqZ {X : Cx} (hu : X.A.units + 64 < cLine) : OpR X (compareOp .Eq) (rEqZ X.K) := by
  rintro pins s σ H x y v u Q I rx ry ⟨a, b, xs, ys, rfl, rfl, ha, hb, hp, q⟩
  have u1 : X.A.in1.units = X.A.units + 1 := rfl
  refine L2.eqR_run I (F := EqI X.K H) (by omega) ?_ (.inl ⟨a, b, xs, ys, rfl, rfl, ha, hb, hp⟩) rx ry X.xe (EP X pins σ Q) ⟨.bl true, H, I, rfl, q⟩
  rintro x y v u (⟨rfl, f⟩ | ⟨d, h1, h2, c, dp⟩ | h) r1 r2
  · exact (eqAt_same r1 r2 f).eqP
  · obtain ⟨as, q1⟩ := Dp.reads I d x v h1 r1
    obtain ⟨bs, q2⟩ := Dp.reads I d y u h2 r2
    have e := SeqAt.eqAt_reads d d X.A.in1 s v u as bs q1 q2 c c (by omega)
    rw [SeqAt.eqv_refl d c] at e
    exact e.eqP
  · exact L2.eqV_run I 3 X.A.in1 (by omega) x y v u h r1 r2
theorem op_eqZ_k {X : Cx} {K : PySem.W.Frag} (hu : X.A.units + 64 < cLine) (h : X.K = K := by rfl) : OpR X (compareOp .Eq) (rEqZ K) := h ▸ op_eqZ hu
theorem eqI_th {C : Addr} : ∀ {th : Th} {x y : V}, ThOk th → th ≠ .o → Is K H (thD C th) x → Is K H (thD C th) y → EqI K H x y
  | .t l, x, y, _, _, h1, h2 => by
    obtain rfl : x = V.str (S l) := h1
    obtain rfl : y = V.str (S l) := h2
    exact .inl ⟨rfl, rfl⟩
  | .c d, x, y, h, _, h1, h2 => .inr (.inl ⟨datD d, dp_of h.1 h1, dp_of h.1 h2, h.2.2.1, h.2.2.2⟩)
  | .k ks, x, y, h, _, ⟨a, ea, h1⟩, ⟨b, eb, h2⟩ => by
    subst ea
    subst eb
    refine .inr (.inr ?_)
    rw [L2.EqV.eq_2]
    refine .inr (.inr (.inr ⟨a, b, ks, ks, rfl, rfl, h1, h2, rfl, fun p hp => ⟨p.2, (h p hp).1, ?_⟩⟩))
    rw [L2.EqV.eq_2]
    exact .inl ⟨rfl, (h p hp).2⟩
  | .o, _, _, _, n, _, _ => absurd rfl n
theorem paired_th {C : Addr} : ∀ {ths : List Th} {xs ys : List V}, (∀ th ∈ ths, ThOk th ∧ th ≠ .o) → IsE K H (ths.map (thD C)) xs → IsE K H (ths.map (thD C)) ys → Paired (EqI K H) xs ys
  | [], xs, ys, _, h1, h2 => by
    rw [show xs = [] from h1, show ys = [] from h2]
    exact .nil
  | th :: r, xs, ys, h, h1, h2 => by
    obtain ⟨x, xr, rfl, a1, b1⟩ := h1
    obtain ⟨y, yr, rfl, a2, b2⟩ := h2
    have q := h th (List.mem_cons_self ..)
    exact .cons (eqI_th q.1 q.2 a1 a2) (paired_th (fun t ht => h t (List.mem_cons_of_mem _ ht)) b1 b2)
theorem ro_eqZ {C : Addr} {ths : List Th} (h : ∀ th ∈ ths, ThOk th ∧ th ≠ .o) : Ro K (rEqZ K) (.L (ths.map (thD C))) (.N (ths.map (thD C))) (.b true) := by
  rintro _ _ H1 ⟨p, vs, rfl, hp, hE⟩ ⟨p', vs', rfl, hp', hE'⟩ Q q
  exact ⟨p, p', vs, vs', rfl, rfl, hp, sq_of hp', paired_th h hE hE', q _ H1 (Ex.refl H1) rfl⟩
end
section
variable {K : PySem.W.Frag} {σ : L2.St} {H G A : Hp} {te ta tb tc ti to : TE} {tr : TA} {d d1 d2 : Dd} {ds : List Dd} {x y : V} {C : Addr}
/-! ### making them -/
theorem ef_d0 : Ef K tDNewK σ G (thD C (.k [])) := fun G1 A e1 e2 Q q p hp => q _ (upd G1 p (.dK [])) _ (Step.new e2 hp) ⟨p, rfl, upd_same⟩
theorem step_new2 {G A A2 : Hp} {p : Addr} {o o' : HO} (e : Ex G A) (hp : A p = none) (e2 : Ex (upd A p o) A2) : Step G A (upd G p o') (upd A2 p o') := by
  have hg := ex_out e hp
  have eA : Ex A A2 := (Ex.new hp).trans e2
  refine ⟨Ex.new hg, ex_both (e.trans eA) hg, eA.mut hp, fun b h h2 => ?_⟩
  have hb : b ≠ p := fun z => h (by rw [z]; exact hp)
  rw [upd_ne hb]
  exact h2
theorem ef_d1 {a : Str} (h1 : Er K ta σ G (.s a)) (h2 : Er K tb σ G (.v y)) : Ef K (tDisp [(ta, tb)]) σ G (thD C (.k [(.inr a, y)])) := fun G1 A e1 e2 Q q p hp =>
  h1 _ ((e1.trans e2).trans (Ex.new hp)) _ fun v2 H2 e3 z2 => h2 _ (((e1.trans e2).trans (Ex.new hp)).trans e3) _ fun v3 H3 e4 z3 => by
    obtain rfl : v2 = V.str a := z2
    obtain rfl : v3 = y := z3
    exact ⟨(e3.trans e4) p _ upd_same, [(.inr a, v3)], rfl, by simp, q _ _ _ (step_new2 e2 hp (e3.trans e4)) ⟨p, rfl, upd_same⟩⟩
theorem mergeK2 {a b : Str} {x y : V} (h : a ≠ b) : mergeK [] [(.inr a, x), (.inr b, y)] = [(.inr a, x), (.inr b, y)] := by
  have e : ¬ ((Sum.inr a : Key) = .inr b) := fun z => h (Sum.inr.inj z)
  simp [mergeK, putK, e]
theorem ef_d2 {a b : Str} (h : a ≠ b) (h1 : Er K ta σ G (.s a)) (h2 : Er K tb σ G (.v x)) (h3 : Er K tc σ G (.s b)) (h4 : Er K to σ G (.v y)) : Ef K (tDisp [(ta, tb), (tc, to)]) σ G (thD C (.k [(.inr a, x), (.inr b, y)])) := fun G1 A e1 e2 Q q p hp =>
  h1 _ ((e1.trans e2).trans (Ex.new hp)) _ fun v2 H2 e3 z2 => h2 _ (((e1.trans e2).trans (Ex.new hp)).trans e3) _ fun v3 H3 e4 z3 => h3 _ ((((e1.trans e2).trans (Ex.new hp)).trans e3).trans e4) _ fun v4 H4 e5 z4 => h4 _ (((((e1.trans e2).trans (Ex.new hp)).trans e3).trans e4).trans e5) _ fun v5 H5 e6 z5 => by
    obtain rfl : v2 = V.str a := z2
    obtain rfl : v3 = x := z3
    obtain rfl : v4 = V.str b := z4
    obtain rfl : v5 = y := z5
    have eE := ((e3.trans e4).trans e5).trans e6
    exact ⟨eE p _ upd_same, [(.inr a, v3), (.inr b, v5)], rfl, by simp, q _ _ _ (step_new2 e2 hp eE) ⟨p, rfl, by rw [mergeK2 h]; exact upd_same⟩⟩
/-- [.., .., ..][i] -/
theorem ef_at {i : Int} (ths : List Th) (h : Efa K tr σ G (ths.map (thD C))) (hi : Er K ti σ G (.i i)) (h0 : 0 ≤ i) (h1 : i < ths.length) (hz : ths.length ≤ 1000) : Ef K (tOp (rIxL K) (tLst tr) ti) σ G (thD C (ths.getD i.toNat .o)) := by
  have e : ((i.toNat : Nat) : Int) = i := Int.toNat_of_nonneg h0
  have hlt : i.toNat < ths.length := by omega
  refine ef_op (ef_N h (by rw [List.length_map]; omega)) (ef_flat hi) ?_
  rw [← e]
  refine rf_ixN ?_
  rw [List.getElem?_map, Int.toNat_natCast, List.getD_eq_getElem?_getD, List.getElem?_eq_getElem hlt]
  rfl
theorem mem_getD {α : Type} {l : List α} {i : Nat} {z : α} (h : i < l.length) : l.getD i z ∈ l := by
  rw [List.getD_eq_getElem?_getD, List.getElem?_eq_getElem h]
  exact List.getElem_mem h
end
end Mi

set_option maxHeartbeats 2000000
namespace Mi
open PySem PySem.Spec PyProof.Rows L2 Evl
theorem cr_any_k {X : Cx} {K : PySem.W.Frag} (h : X.K = K := by rfl) (hc : X.calm = true := by rfl) : CallR X (.builtin "any") (rAny K) := h ▸ cr_any hc
section
variable {K : PySem.W.Frag} {σ : L2.St} {G A H H' : Hp} {te ta tb tc : TE} {t u : TT} {tr : TA} {x y : V}
theorem rc_anyB {bs : List Bool} : Rc K (rAny K) [.l (bs.map V.bl)] (.b (bs.any id)) := by
  rintro _ H1 (_ | ⟨⟨p, rfl, hp⟩, _ | _⟩) Q q
  exact ⟨p, bs, rfl, hp, q _ H1 (Ex.refl H1) rfl⟩
theorem rc_anyBN {bs : List Bool} : Rc K (rAny K) [.n (bs.map V.bl)] (.b (bs.any id)) := fun vs H1 h Q q => by
  cases h with
  | cons a b => exact rc_anyB _ H1 (.cons a.n2l b) Q q
/-- a list or a tuple of cells -/
def csD (b : Bool) (cs : List Nat) : Dd := if b = true then .U (cs.map fun c : Nat => Dd.i (c : Int)) else .L (cs.map fun c : Nat => Dd.i (c : Int))
theorem if_cs {b : Bool} {cs : List Nat} {i : Nat} (hx : σ[i]? = some (some x)) (h : Is K G (csD b cs) x) : Itf K (iSeqV K i) σ G (cs.map fun c : Nat => Dd.i (c : Int)) := by
  cases b with
  | true => exact if_seqU hx h
  | false => exact if_seqL hx h
/-- [test of cell for cell in cells], the cells in slot i, the cell in slot j -/
theorem er_lcB {b : Bool} {cs : List Nat} {i j : Nat} (g : Nat → Bool) (hx : σ[i]? = some (some x)) (h : Is K H (csD b cs) x) (hz : cs.length ≤ 1000) (hw : ∀ v, wipe ((wipe σ [j]).set j (some v)) [j] = wipe σ [j])
    (he : ∀ c ∈ cs, ∀ H1, Ex H H1 → Er K te ((wipe σ [j]).set j (some (.int (c : Int)))) H1 (.b (g c))) : Er K (tLc (iSeqV K i) (gName j) tYes te [j]) σ H (.n ((cs.map g).map V.bl)) :=
  Er.as (Ef.er (Ef.to (ef_lc (K := K) (its := cs) (inj := fun c : Nat => Dd.i (c : Int)) (vs := [j]) (fun _ => true) (fun c => Dd.b (g c)) (if_cs hx h) (by omega) (fun k c v G' A' e1 e2 hi hv => by
    obtain rfl : v = V.int (c : Int) := hv
    exact ⟨(wipe σ [j]).set j (some (.int (c : Int))), fun Q q => q, hw _, fun H2 e Q q => q H2 (Ex.refl _), fun _ => ef_flat (he c (List.mem_of_getElem? hi) G' e1)⟩)) (by rw [filt_true]))) fun Hx v z => by
      refine Is.N2n (xs := (cs.map g).map V.bl) ?_
      rw [List.map_map, List.map_map]
      exact z
end
end Mi

set_option maxHeartbeats 2000000
namespace Mi
open PySem PySem.Spec PyProof.Rows L2 Evl
/-! ### x in obj, the object's class has its own __contains__ -/
def rInO (C : Addr) (sp : Sp) (neg : Bool) : R2 := fun x y H Q => ∃ a dx fs, y = .ref a ∧ H a = some (.ins C dx fs) ∧ sp [y, x] H (fun v H' => ∃ b, v = .bl b ∧ Q (.bl (if neg = true then !b else b)) H') E0
theorem in_own {X : Cx} {k : Nat} {f C : Addr} {fd : FuncData} {sp : Sp} {p1 p2 : Str} (hi : PySem.W.findIn X.K (.ref C) "__contains__" = some (some (.ref f))) (hfn : PySem.W.isFn X.K (.ref f) = true) (F : FnOk X.prog X.w X.K X.mg X.base CX0 k f fd [p1, p2] sp) (hb : Binds X.K fd [p1, p2] []) (hr : Room k X.A)
    {pins : List (Addr × Obj)} {s : Shared} {σ : L2.St} {H : Hp} {x : V} {a dx : Addr} {fs : List (Str × V)} {v : Value} {Qb : Bool → Hp → Prop} {R : Bool → Shared → Prop} (I : Inv X pins σ H s) (rx : RelV x v) (hx : H a = some (.ins C dx fs))
    (h : sp [.ref a, x] H (fun v H' => ∃ b, v = .bl b ∧ Qb b H') E0) (hR : ∀ b s' H', Inv X pins σ H' s' → Qb b H' → R b s') : wpAny (PySem.model X.prog X.w) X.A (PySem.contains (.ref a) v) R X.xe s := by
  obtain ⟨mA, J, _⟩ := ins_get I.hok hx
  obtain ⟨od, J, _⟩ := J.look
  obtain ⟨m, hF⟩ := I.fr
  refine PySem.W.contains_K hF I.ok.mod.kin J hi hfn ?_
  have bd := hb s [.ref a, v] (I.kIn) rfl
  refine wpAny_call (codeAny_mono (F.run X.A X.stack s H ⟨[.ref a, v], []⟩ [.ref a, v] [.ref a, x] _ E0 hr I.env0 bd (.cons rfl (.cons rx .nil)) h) fun r s' hq => ?_)
  cases r with
  | error e => exact pass0 pins σ H s e s' I hq
  | ok fl =>
    cases fl with
    | ret u =>
      obtain ⟨w, H', I2, rv, b, rfl, q⟩ := I.after hq
      have eu : u = .bool b := rv
      subst eu
      show wpAny _ _ (truthy (Value.bool b)) R _ s'
      rw [show truthy (Value.bool b) = pure b from rfl]
      exact wpAny_pure (hR b s' H' I2 q)
    | next => exact False.elim hq
    | brk => exact False.elim hq
    | cont => exact False.elim hq
theorem op_inO {X : Cx} {k : Nat} {f C : Addr} {fd : FuncData} {sp : Sp} {p1 p2 : Str} (hi : PySem.W.findIn X.K (.ref C) "__contains__" = some (some (.ref f))) (hfn : PySem.W.isFn X.K (.ref f) = true) (F : FnOk X.prog X.w X.K X.mg X.base CX0 k f fd [p1, p2] sp) (hb : Binds X.K fd [p1, p2] []) (hr : Room k X.A) : OpR X (compareOp .In) (rInO C sp false) := by
  rintro pins s σ H x y v u Q I rx ry ⟨a, dx, fs, rfl, hx, h⟩
  have eu : u = .ref a := ry
  subst eu
  show wpAny (PySem.model X.prog X.w) X.A (PySem.contains (.ref a) v >>= fun b => (pure (Value.bool b) : Sem Value)) (EP X pins σ Q) X.xe s
  refine wpAny_bind (in_own hi hfn F hb hr I rx hx (Qb := fun b H' => Q (.bl b) H') h fun b s' H' J q => ?_)
  exact wpAny_pure ⟨.bl b, H', J, rfl, q⟩
theorem op_notInO {X : Cx} {k : Nat} {f C : Addr} {fd : FuncData} {sp : Sp} {p1 p2 : Str} (hi : PySem.W.findIn X.K (.ref C) "__contains__" = some (some (.ref f))) (hfn : PySem.W.isFn X.K (.ref f) = true) (F : FnOk X.prog X.w X.K X.mg X.base CX0 k f fd [p1, p2] sp) (hb : Binds X.K fd [p1, p2] []) (hr : Room k X.A) : OpR X (compareOp .NotIn) (rInO C sp true) := by
  rintro pins s σ H x y v u Q I rx ry ⟨a, dx, fs, rfl, hx, h⟩
  have eu : u = .ref a := ry
  subst eu
  show wpAny (PySem.model X.prog X.w) X.A (PySem.contains (.ref a) v >>= fun b => (pure (Value.bool !b) : Sem Value)) (EP X pins σ Q) X.xe s
  refine wpAny_bind (in_own hi hfn F hb hr I rx hx (Qb := fun b H' => Q (.bl !b) H') h fun b s' H' J q => ?_)
  exact wpAny_pure ⟨.bl !b, H', J, rfl, q⟩
end Mi
namespace Mi
open PySem PySem.Spec PyProof.Rows L2 Evl
/-! ### text in dict, the dict one of ours -/
def rInK (neg : Bool) : R2 := fun x y H Q => ∃ p z kvs, x = .str z ∧ y = .ref p ∧ H p = some (.dK kvs) ∧ Q (.bl (if neg = true then !(valV kvs (Sum.inr z)).isSome else (valV kvs (Sum.inr z)).isSome)) H
theorem relO_some {a : Option V} {b : Option Value} (h : RelO a b) : b.isSome = a.isSome := by
  cases a with
  | none =>
    cases b with
    | none => rfl
    | some v => exact h.elim
  | some x =>
    cases b with
    | none => exact h.elim
    | some v => rfl
theorem op_inK {X : Cx} : OpR X (compareOp .In) (rInK false) := by
  rintro pins s σ H x y v u Q I rx ry ⟨p, z, kvs, rfl, rfl, hp, q⟩
  obtain ⟨t, rfl⟩ := rx
  have eu : u = .ref p := ry
  subst eu
  obtain ⟨_, ya, va, ra, da⟩ := I.hok p (.dK kvs) hp
  refine PySem.wpAny_in_of (mixKind_str _ _ z t) ya da.mapOf ⟨.bl (valV kvs (Sum.inr z)).isSome, H, I.tok _, ?_, q⟩
  rw [relO_some (ra.val (Sum.inr z))]
  rfl
theorem op_notInK {X : Cx} : OpR X (compareOp .NotIn) (rInK true) := by
  rintro pins s σ H x y v u Q I rx ry ⟨p, z, kvs, rfl, rfl, hp, q⟩
  obtain ⟨t, rfl⟩ := rx
  have eu : u = .ref p := ry
  subst eu
  obtain ⟨_, ya, va, ra, da⟩ := I.hok p (.dK kvs) hp
  refine PySem.wpAny_notIn_of (mixKind_str _ _ z t) ya da.mapOf ⟨.bl (!(valV kvs (Sum.inr z)).isSome), H, I.tok _, ?_, q⟩
  rw [relO_some (ra.val (Sum.inr z))]
  rfl
end Mi
namespace Mi
open PySem PySem.Spec PyProof.Rows L2 Evl
/-! ### dict[text], the dict one of ours and the text a key of it -/
def rIxK : R2 := fun x y H Q => ∃ p z kvs v, x = .ref p ∧ y = .str z ∧ H p = some (.dK kvs) ∧ valV kvs (Sum.inr z) = some v ∧ Q v H
theorem ix_dK {X : Cx} : IxR X rIxK := by
  rintro value slice pins s σ H x y v u Q I rx ry ⟨p, z, kvs, w, rfl, rfl, hp, hv, q⟩ hs
  obtain ⟨t, rfl⟩ := ry
  have eu : v = .ref p := rx
  subst eu
  obtain ⟨_, ya, va, ra, da⟩ := I.hok p (.dK kvs) hp
  have r := ra.val (Sum.inr z)
  rw [hv] at r
  cases hw : valueAt va (Sum.inr z) with
  | none => rw [hw] at r; exact r.elim
  | some w' =>
    rw [hw] at r
    exact subscriptTail_builtinR da.typeIs slot_dict_getitem.lookup (wpAny_getItem_of (mixKind_str _ _ z t) da.mapOf hw ⟨rfl, ⟨w, H, I.tok _, r, q⟩⟩) hs
section
variable {K : PySem.W.Frag} {H : Hp} {kvs : List (Key × V)} {z : Str} {v : V}
/-- a dict of ours with these items -/
def dicD (kvs : List (Key × V)) : Dd := .P ⟨fun H x => ∃ a, x = .ref a ∧ H a = some (.dK kvs), by rintro H H' x e ⟨a, rfl, h⟩; exact ⟨a, rfl, e a _ h⟩⟩
theorem ro_inK : Ro K (rInK false) (.s z) (dicD kvs) (.b (valV kvs (Sum.inr z)).isSome) := by
  rintro _ _ H1 rfl ⟨p, rfl, hp⟩ Q q
  exact ⟨p, z, kvs, rfl, rfl, hp, q _ H1 (Ex.refl H1) rfl⟩
theorem ro_notInK : Ro K (rInK true) (.s z) (dicD kvs) (.b (!(valV kvs (Sum.inr z)).isSome)) := by
  rintro _ _ H1 rfl ⟨p, rfl, hp⟩ Q q
  exact ⟨p, z, kvs, rfl, rfl, hp, q _ H1 (Ex.refl H1) rfl⟩
theorem ro_ixK (hv : valV kvs (Sum.inr z) = some v) : Ro K rIxK (dicD kvs) (.s z) (.v v) := by
  rintro _ _ H1 ⟨p, rfl, hp⟩ rfl Q q
  exact ⟨p, z, kvs, v, rfl, rfl, hp, hv, q _ H1 (Ex.refl H1) rfl⟩
end
end Mi
namespace Mi
open PySem PySem.Spec PyProof.Rows L2 Evl
/-! ### a dict comprehension with different keys: what it holds -/
theorem putK_new {kvs : List (Key × V)} {k : Key} {v : V} (h : ∀ p ∈ kvs, p.1 ≠ k) : putK kvs k v = kvs ++ [(k, v)] := by
  unfold putK
  rw [if_neg]
  intro e
  obtain ⟨p, hp, hk⟩ := List.any_eq_true.mp e
  exact h p hp (of_decide_eq_true hk)
section
variable {K : PySem.W.Frag} {σ : L2.St} {G A : Hp} {te tk tv : TE} {t : TT} {wi : TI} {g : TG} {d : Dd}
theorem ef_dcC {α : Type} {its : List α} {inj : α → Dd} {vs : List Nat} (kf : α → Key) (vf : α → V) (hn : (its.map kf).Nodup) (h : Itf K wi σ G (its.map inj)) (hz : its.length ≤ 50000)
    (hs : ∀ (i : Nat) x v G' A', Ex G G' → Ex G' A' → its[i]? = some x → Is K G' (inj x) v → ∃ σ2, (∀ Q : L2.St → Hp → Prop, Q σ2 A' → g v (wipe σ vs) A' Q) ∧ wipe σ2 vs = wipe σ vs ∧ Er K tk σ2 A' (.v (kV (kf x))) ∧ Er K tv σ2 A' (.v (vf x))) :
    Ef K (tDc wi g tYes tk tv vs) σ G (dicD (its.map fun x => (kf x, vf x))) := fun G0 A0 e0 ea0 Q q =>
  h G0 A0 e0 ea0 _ fun J G1 A1 s1 hw => fun Dl hD => by
    have gD := ex_out s1.v hD
    refine ⟨fun i m A' => m = its.length - i ∧ i ≤ its.length ∧ ∃ G', Step G1 A1 G' A' ∧ G' Dl = none ∧ A' Dl = some (.dK ((its.take i).map fun x => (kf x, vf x))), ⟨_, rfl, Nat.zero_le _, G1, .on s1.v (Ex.new hD), gD, upd_same⟩, ?_⟩
    rintro i m A' ⟨rfl, hi, G', st, hg, hu⟩
    by_cases hlt : i < its.length
    · have hx : its[i]? = some its[i] := List.getElem?_eq_getElem hlt
      have hd' : (its.map inj)[i]? = some (inj its[i]) := by rw [List.getElem?_map, hx]; rfl
      obtain ⟨go, yl⟩ := (hw i G' A' st.g st.v).1 _ hd'
      refine .inr ⟨go, fun A3 => ∃ G3, Step G1 A1 G3 A3 ∧ G3 Dl = none ∧ A3 Dl = some (.dK ((its.take (i + 1)).map fun x => (kf x, vf x))), fun A3 p3 => ⟨its.length - (i + 1), by omega, rfl, hlt, p3⟩, fun v A'' y => ?_⟩
      obtain ⟨G2, s2, z⟩ := yl v A'' y
      have uN : A' Dl ≠ none := by rw [hu]; simp
      have g2 := s2.f Dl uN hg
      have u2 := s2.a Dl _ hu
      obtain ⟨σ2, hgt, hwp, htk, htv⟩ := hs i _ v G2 A'' ((e0.trans s1.g).trans (st.g.trans s2.g)) s2.v hx z
      refine hgt _ ⟨hwp, ?_⟩
      unfold tYes
      dsimp only
      rw [if_pos rfl]
      refine htk A'' (Ex.refl _) _ fun w A3 e3 zw => ?_
      refine htv A3 e3 _ fun w2 A4 e4 zw2 => ?_
      have s4 := (st.trans s2).trans (Step.on s2.v (e3.trans e4))
      refine ⟨_, kf its[i], zw, e4 Dl _ (e3 Dl _ u2), sz_lt (by rw [List.length_map, List.length_take]; omega), G2, s4.grow hD g2, g2, ?_⟩
      obtain rfl : w2 = vf its[i] := zw2
      rw [upd_same, map_take_next hx, putK_new]
      intro p hp
      obtain ⟨x, hxm, rfl⟩ := List.mem_map.mp hp
      obtain ⟨j, hj, rfl⟩ := List.getElem_of_mem hxm
      rw [List.length_take] at hj
      rw [List.getElem_take]
      have hq := List.pairwise_iff_getElem.mp hn j i (by rw [List.length_map]; omega) (by rw [List.length_map]; exact hlt) (by omega)
      rw [List.getElem_map, List.getElem_map] at hq
      exact hq
    · have e : i = its.length := by omega
      subst e
      rw [List.take_length] at hu
      refine .inl ⟨(hw _ G' A' st.g st.v).2 (by rw [List.length_map]), q _ (upd G' Dl (.dK (its.map fun x => (kf x, vf x)))) A' (s1.trans (st.seal hD hg hu)) ⟨Dl, rfl, upd_same⟩⟩
end
/-! ### a stock whose dict is known -/
def stK (sts : List (List Nat × List Nat)) : List (Key × V) := sts.map fun p => (Sum.inr (S p.1), V.str (S p.2))
theorem stK_get {sts : List (List Nat × List Nat)} {n : List Nat} : valV (stK sts) (Sum.inr (S n)) = (sts.find? fun p => decide (p.1 = n)).map fun p => V.str (S p.2) := by
  unfold valV stK
  rw [List.find?_map, Option.map_map]
  have : ((fun kv : Key × V => decide (kv.1 = Sum.inr (S n))) ∘ fun p : List Nat × List Nat => ((Sum.inr (S p.1), V.str (S p.2)) : Key × V)) = fun p : List Nat × List Nat => decide (p.1 = n) := by
    funext p
    show decide ((Sum.inr (S p.1) : Key) = Sum.inr (S n)) = decide (p.1 = n)
    by_cases h : p.1 = n
    · rw [h, decide_eq_true rfl, decide_eq_true rfl]
    · have h2 : ¬ ((Sum.inr (S p.1) : Key) = Sum.inr (S n)) := fun e => h (S_inj (Sum.inr.inj e))
      rw [decide_eq_false h, decide_eq_false h2]
  rw [this]
  rfl
def stockC (K : PySem.W.Frag) (C : Addr) (n : Int) (sts : List (List Nat × List Nat)) : Dd := .P ⟨fun H y => ∃ x dx ps dd, y = .ref x ∧ H x = some (.ins C dx (stFlds n ps dd)) ∧ Is K H (.U (prD sts)) (.ref ps) ∧ H dd = some (.dK (stK sts)), by
  rintro H H' y e ⟨x, dx, ps, dd, rfl, h1, h2, h3⟩
  exact ⟨x, dx, ps, dd, rfl, e x _ h1, h2.mono e, e dd _ h3⟩⟩
theorem stockC_D {K : PySem.W.Frag} {C : Addr} {n : Int} {sts : List (List Nat × List Nat)} {H : Hp} {v : V} (h : Is K H (stockC K C n sts) v) : Is K H (stockD K C n sts) v := by
  obtain ⟨x, dx, ps, dd, rfl, h1, h2, h3⟩ := h
  exact ⟨x, dx, ps, dd, _, rfl, h1, h2, h3⟩
theorem stFlds_dict (n : Int) (ps dd : Addr) : (stFlds n ps dd).lookup ("_stamp_of" : Str) = some (.ref dd) := by
  unfold stFlds
  rw [lookup_putF, if_pos rfl]
/-- stock._stamp_of -/
theorem er_stampOf {K : PySem.W.Frag} {σ : L2.St} {H : Hp} {te : TE} {C : Addr} {n : Int} {sts : List (List Nat × List Nat)} (cl : Cls K C) (na : NoAttr K C "_stamp_of") (h : Er K te σ H (stockC K C n sts)) : Er K (tFld K te "_stamp_of") σ H (dicD (stK sts)) := fun H1 e Q q =>
  h H1 e _ fun v H2 e2 ⟨x, dx, ps, dd, ev, h1, h2, h3⟩ => by
    subst ev
    exact ⟨x, C, dx, _, .ref dd, rfl, h1, cl, na, stFlds_dict n ps dd, q _ H2 e2 ⟨dd, rfl, h3⟩⟩
end Mi

set_option maxHeartbeats 2000000
namespace Mi
open PySem PySem.Spec PyProof.Rows L2 Evl HT

/-! ### tuple[::-1] -/
theorem fm_congr {α β : Type} {f g : α → Option β} : ∀ {l : List α}, (∀ x ∈ l, f x = g x) → l.filterMap f = l.filterMap g
  | [], _ => rfl
  | a :: l, h => by
    rw [List.filterMap_cons, List.filterMap_cons, h a (List.mem_cons_self ..), fm_congr fun x hx => h x (List.mem_cons_of_mem _ hx)]
theorem rev_pick (xs : Array Value) : ((List.range xs.size).filterMap fun (m : Nat) => xs[((xs.size : Int) - 1 + (m : Int) * (-1)).toNat]?).toArray = xs.toList.reverse.toArray := by
  have h := PySem.W.krv_pick xs
  unfold slicePick at h
  rw [PySem.W.krv_bounds] at h
  have h : ((sliceRange ((xs.size : Int) - 1) (-1) (-1)).filterMap (xs[·]?)).toArray = xs.toList.reverse.toArray := h
  rw [PySem.W.krv_sliceRange, List.filterMap_map] at h
  rw [← h]
  congr 1
  apply fm_congr
  intro m hm
  have := List.mem_range.mp hm
  have e : ((xs.size : Int) - 1 + (m : Int) * (-1)).toNat = xs.size - 1 - m := by omega
  show xs[((xs.size : Int) - 1 + (m : Int) * (-1)).toNat]? = xs[xs.size - 1 - m]?
  rw [e]
theorem rev_adj (n : Nat) : Builtin.Slice.sliceAdjust none none (-1) (n : Int) = ((n : Int) - 1, -1) := rfl
theorem rev_places (n : Nat) : Builtin.Slice.slicePlaces ((n : Int) - 1) (-1) (-1) = n := by
  unfold Builtin.Slice.slicePlaces
  rw [if_neg (by decide)]
  by_cases h : (n : Int) - 1 > -1
  · rw [if_pos h, show (- -1 : Int) = 1 by decide, Int.ediv_one]
    omega
  · rw [if_neg h]
    omega
section
variable {prog : Program} {w : World} {A : Around} {E : Value → Shared → Prop} {s : Shared}
theorem sliceApplied_rev {sl : Addr} {vl vu vs : Value} {n : Nat} {Q : Int × Int × Nat → Shared → Prop} (hs : s.heap.IsSliceOf sl vl vu vs) (pl : IsPart vl none) (pu : IsPart vu none) (ps : IsPart vs (some (-1)))
    (h : Q ((n : Int) - 1, -1, n) s) : wpAny (model prog w) A (Builtin.Slice.sliceApplied (.ref sl) (pure (n : Int))) Q E s := by
  obtain ⟨os, hos, hcs, hds⟩ := id hs
  unfold Builtin.Slice.sliceApplied Builtin.Slice.sliceFields
  refine wpAny_bind (wpAny_bind (wpAny_field hos hds (x := vl) rfl (wpAny_bind (wpAny_field hos hds (x := vu) rfl (wpAny_bind (wpAny_field hos hds (x := vs) rfl (wpAny_pure ?_)))))))
  refine wpAny_bind (slicePart_ ps ?_)
  show wpAny _ _ (if ((-1 : Int) == 0) = true then _ else _) _ _ s
  rw [if_neg (by decide)]
  refine wpAny_bind (slicePart_ pl (wpAny_bind (slicePart_ pu (wpAny_bind (wpAny_pure ?_)))))
  show wpAny _ _ (match Builtin.Slice.sliceAdjust none none (-1) (n : Int) with | (lo, hi) => pure (lo, (-1 : Int), Builtin.Slice.slicePlaces lo hi (-1))) _ _ s
  rw [rev_adj n]
  show wpAny _ _ (pure ((n : Int) - 1, (-1 : Int), Builtin.Slice.slicePlaces ((n : Int) - 1) (-1) (-1))) _ _ s
  rw [rev_places]
  exact wpAny_pure h
theorem getItem_tuple_rev {t sl : Addr} {items : Array Value} {vl vu vs : Value} {Q : Value → Shared → Prop} (ht : IsTup s.heap t items) (hs : s.heap.IsSliceOf sl vl vu vs) (pl : IsPart vl none) (pu : IsPart vu none) (ps : IsPart vs (some (-1)))
    (h : Q (.ref s.heap.objs.size) { s with heap := s.heap.push { cls := .type "tuple", data := .seq items.toList.reverse.toArray } })
    (hsz : items.size ≤ sizeLine) : wpAny (model prog w) A (getItem (.ref t) (.ref sl)) Q E s := by
  have htake : sizeOk (.seq items.toList.reverse.toArray) := by
    show items.toList.reverse.toArray.size ≤ sizeLine
    rw [List.size_toArray, List.length_reverse, Array.length_toList]
    omega
  obtain ⟨os, hos, hcs, hds⟩ := id hs
  have hTs : s.TypeIs (.ref sl) "slice" := ⟨os, hos, hcs⟩
  unfold getItem
  try with_reducible refine wpAny_holding ?_
  first | refine wpAny_bind (wpAny_pure ?_) | skip
  refine wpAny_bind (wpAny_sequenceKey ht.typeIs (by decide) ?_)
  refine wpAny_bind (wpAny_callSpecial?_slot (name := Str.ofString "__getitem__") ht.typeIs PyProof.Rows.slot_tuple_getitem
    (wpAny_call_entry PyProof.Rows.slot_tuple_getitem ht.typeIs entry_tuple_getitem ?_ (args_tuple_getitem _ _)))
  show wpAny _ _ (Builtin.Tuple.tupleItemsOf (.ref t) >>= _) _ _ s
  refine wpAny_bind (tupleItemsOf_ ht ?_)
  refine wpAny_bind (wpAny_typeOf hTs ?_)
  rw [if_pos (by decide)]
  refine wpAny_bind (sliceApplied_rev hs pl pu ps ?_)
  show wpAny _ _ (if (((items.size : Int) - 1) == 0 && (-1 : Int) == 1 && items.size == items.size) = true then _ else _) _ _ s
  rw [show (((items.size : Int) - 1) == 0 && (-1 : Int) == 1 && items.size == items.size) = false by
    rw [show ((-1 : Int) == 1) = false by decide, Bool.and_false, Bool.false_and]]
  rw [if_neg Bool.false_ne_true, rev_pick]
  first
    | exact wpAny_bind (m := Builtin.Tuple.tupleExact _) (wpAny_newObj_type (wpAny_pure ⟨_, rfl, wpAny_pure h⟩) htake)
    | exact wpAny_bind (m := Builtin.Tuple.tupleExact _) (wpAny_newObj_type (wpAny_bind (wpAny_pure (wpAny_pure ⟨_, rfl, wpAny_pure h⟩))) htake)
    | exact wpAny_bind (wpAny_bind (m := Builtin.Tuple.tupleExact _) (wpAny_newObj_type (wpAny_pure (wpAny_pure ⟨_, rfl, wpAny_pure h⟩)) htake))
    | exact wpAny_bind (wpAny_bind (m := Builtin.Tuple.tupleExact _) (wpAny_newObj_type (wpAny_pure ⟨_, rfl, wpAny_pure h⟩) htake))
end
def tRevT (K : PySem.W.Frag) (te : TE) : TE := fun σ H Q => te σ H fun x H1 => ∃ a xs, x = .ref a ∧ SqT K H1 a xs ∧ ∀ p, H1 p = none → Q (.ref p) (upd H1 p (.tup xs.reverse))
theorem pe_revT {X : Cx} {e : Expr} {te : TE} {k : Nat} {p1 p2 p3 pos : Pos} (he : PE X e te) : PE X (.Subscript e (.Slice none none (some (.UnaryOp .USub (.Constant (.int 1) k p1) p2)) p3) pos) (tRevT X.K te) := by
  refine ⟨fun pins s σ H Q I h => ?_⟩
  refine Subscript_ (thn (he.run pins s σ H _ I h) fun v s1 ⟨x, H1, I1, r1, q1⟩ => ?_)
  obtain ⟨a, xs, ex, hx, q⟩ := q1
  subst ex
  cases r1
  have hst : PO X (some (.UnaryOp .USub (.Constant (.int 1) k p1) p2)) (tPart (tUn (rU fun i => .int (-i)) (tC (.int 1)))) := po_some (pe_un un_neg pe_int)
  refine wpAny_Slice (thn (po_none.run pins s1 σ H1 (fun o H2 => o = none ∧ H2 = H1) I1 ⟨rfl, rfl⟩) fun vl s2 ⟨l, H2, I2, pl, el, e2⟩ => ?_)
  subst el e2
  refine thn (po_none.run pins s2 σ H2 (fun o H3 => o = none ∧ H3 = H2) I2 ⟨rfl, rfl⟩) fun vu s3 ⟨u, H3, I3, pu, eu, e3⟩ => ?_
  subst eu e3
  refine thn (hst.run pins s3 σ H3 (fun o H4 => o = some (-1) ∧ H4 = H3) I3 ⟨1, rfl, -1, rfl, rfl, rfl⟩) fun vs s4 ⟨o, H4, I4, ps, eo, e4⟩ => ?_
  subst eo e4
  have I5 : Inv X pins σ H4 { s4 with heap := s4.heap.push { cls := .type "slice", data := .fields #[vl, vu, vs] } } := I4.kept (t' := s4.toks) fun b ob q => Heap.get?_push_of_some _ q
  obtain ⟨its, r, ht, hz⟩ := I5.tuple hx
  have hlen := r.length
  show wpAny (model X.prog X.w) X.A (subscriptTail e (.Slice none none (some (.UnaryOp .USub (.Constant (.int 1) k p1) p2)) p3) (.ref a) (.ref s4.heap.objs.size)) (EP X pins σ Q) X.xe { s4 with heap := s4.heap.push { cls := .type "slice", data := .fields #[vl, vu, vs] } }
  refine tail_any (ops := [.ref a, .ref s4.heap.objs.size]) ht.typeIs (PyProof.Rows.slot_tuple_getitem.lookup) ?_ (by with_unfolding_all rfl)
  refine getItem_tuple_rev ht (Heap.IsSliceOf.new _ vl vu vs) pl pu ps ?_ (by rw [List.size_toArray]; omega)
  refine ⟨.ref _, _, I5.laid (t' := s4.toks) (o := .tup xs.reverse) (fun b ob q => Heap.get?_push_of_some _ q) (Nat.le_refl _) ?_, rfl, q _ (I5.hok.fresh (Nat.le_refl _))⟩
  exact ⟨by rw [List.length_reverse]; exact hz, _, r.reverse, IsTup.new _ _⟩
/-! ### text[::-1] -/
theorem pick_all (x : Array Nat) : (List.range x.size).filterMap (x[·]?) = x.toList := by
  have h1 : (List.range x.size).filterMap (x[·]?) = (List.range x.size).filterMap (some ∘ fun i => x.getD i 0) := by
    apply fm_congr
    intro i hi
    have := List.mem_range.mp hi
    show x[i]? = some (x.getD i 0)
    rw [Array.getElem?_eq_getElem this, Array.getD_eq_getD_getElem?, Array.getElem?_eq_getElem this]
    rfl
  rw [h1, List.filterMap_eq_map]
  apply List.ext_getElem
  · simp
  · intro i h2 h3
    have h4 : i < x.size := by simpa using h3
    simp [h4]
theorem rev_text (x : Str) : ((Builtin.Str.strSliceIndices none none (-1) x.length).filterMap (x.cps[·]?)).toArray = x.cps.toList.reverse.toArray := by
  have h : ((sliceRange ((x.cps.size : Int) - 1) (-1) (-1)).filterMap (x.cps[·]?)).toArray = x.cps.toList.reverse.toArray := by
    rw [PySem.W.krv_sliceRange, PySem.W.krv_range, List.filterMap_reverse, pick_all]
  exact h
def tRevS (te : TE) : TE := fun σ H Q => te σ H fun x H1 => ∃ z, x = .str z ∧ z.length ≤ sizeLine ∧ Q (.str ⟨z.cps.toList.reverse.toArray⟩) H1
theorem pe_revS {X : Cx} {e : Expr} {te : TE} {k : Nat} {p1 p2 p3 pos : Pos} (he : PE X e te) : PE X (.Subscript e (.Slice none none (some (.UnaryOp .USub (.Constant (.int 1) k p1) p2)) p3) pos) (tRevS te) := by
  refine ⟨fun pins s σ H Q I h => ?_⟩
  refine Subscript_ (thn (he.run pins s σ H _ I h) fun v s1 ⟨x, H1, I1, r1, q1⟩ => ?_)
  obtain ⟨z, ex, hz, q⟩ := q1
  subst ex
  obtain ⟨t, rfl⟩ := r1
  have hst : PO X (some (.UnaryOp .USub (.Constant (.int 1) k p1) p2)) (tPart (tUn (rU fun i => .int (-i)) (tC (.int 1)))) := po_some (pe_un un_neg pe_int)
  refine wpAny_Slice (thn (po_none.run pins s1 σ H1 (fun o H2 => o = none ∧ H2 = H1) I1 ⟨rfl, rfl⟩) fun vl s2 ⟨l, H2, I2, pl, el, e2⟩ => ?_)
  subst el e2
  refine thn (po_none.run pins s2 σ H2 (fun o H3 => o = none ∧ H3 = H2) I2 ⟨rfl, rfl⟩) fun vu s3 ⟨u, H3, I3, pu, eu, e3⟩ => ?_
  subst eu e3
  refine thn (hst.run pins s3 σ H3 (fun o H4 => o = some (-1) ∧ H4 = H3) I3 ⟨1, rfl, -1, rfl, rfl, rfl⟩) fun vs s4 ⟨o, H4, I4, ps, eo, e4⟩ => ?_
  subst eo e4
  have I5 : Inv X pins σ H4 { s4 with heap := s4.heap.push { cls := .type "slice", data := .fields #[vl, vu, vs] } } := I4.kept (t' := s4.toks) fun b ob q => Heap.get?_push_of_some _ q
  obtain ⟨l, rfl, hl⟩ := IsPart.raw pl
  obtain ⟨u, rfl, hu⟩ := IsPart.raw pu
  obtain ⟨st, rfl, hst2⟩ := IsPart.raw ps
  show wpAny (model X.prog X.w) X.A (subscriptTail e (.Slice none none (some (.UnaryOp .USub (.Constant (.int 1) k p1) p2)) p3) (.str z t) (.ref s4.heap.objs.size)) (EP X pins σ Q) X.xe { s4 with heap := s4.heap.push { cls := .type "slice", data := .fields #[partValue l, partValue u, partValue st] } }
  refine tail_any (ops := [.str z t, .ref s4.heap.objs.size]) (typeIs_str _ _ _) F.slot_str_getitem.lookup ?_ (by with_unfolding_all rfl)
  obtain ⟨os, hos, hcs, hds⟩ := Heap.IsSliceOf.new s4.heap (partValue l) (partValue u) (partValue st)
  refine wpAny_getItem_str_slice (l := l) (u := u) (st := st) ⟨os, hos, hcs, hds⟩ (by rw [hst2]; rfl) ?_
  unfold sliceMade slicePicked
  rw [hl, hu, hst2]
  show Made.post (if ((-1 : Int) == 1 && (Builtin.Str.strSliceIndices none none (-1) z.length).length == z.length) = true then Made.val (.str z t) else Made.str ⟨((Builtin.Str.strSliceIndices none none (-1) z.length).filterMap (z.cps[·]?)).toArray⟩) (EP X pins σ Q) _
  rw [show ((-1 : Int) == 1 && (Builtin.Str.strSliceIndices none none (-1) z.length).length == z.length) = false by rw [show ((-1 : Int) == 1) = false by decide, Bool.false_and], if_neg Bool.false_ne_true, rev_text]
  refine ⟨?_, .str _, H4, I5.tok _, ⟨_, rfl⟩, q⟩
  show z.cps.toList.reverse.toArray.size ≤ sizeLine
  rw [List.size_toArray, List.length_reverse, Array.length_toList]
  exact hz
section
variable {K : PySem.W.Frag} {σ : L2.St} {G H : Hp} {te : TE}
theorem er_revS {l : List Nat} (h : Er K te σ H (.s (S l))) (hz : l.length ≤ 100000) : Er K (tRevS te) σ H (.s (S l.reverse)) := fun H1 e1 Q q =>
  h H1 e1 _ fun v H2 e2 z => ⟨S l, z, sz_of hz, q _ H2 e2 (by show V.str _ = V.str _; congr 1)⟩
end
section
variable {K : PySem.W.Frag} {σ : L2.St} {G H : Hp} {te : TE} {ds : List Dd} {xs : List V}
theorem isE_rev : ∀ {ds : List Dd} {vs : List V}, IsE K H ds vs → IsE K H ds.reverse vs.reverse
  | [], vs, h => by
    have : vs = [] := h
    subst this
    exact rfl
  | d :: ds, vs, ⟨x, r, e, h1, h2⟩ => by
    subst e
    rw [List.reverse_cons, List.reverse_cons]
    exact isE_app (isE_rev h2) ⟨x, [], rfl, h1, rfl⟩
theorem ef_revT (h : Ef K te σ G (.U ds)) : Ef K (tRevT K te) σ G (.U ds.reverse) := fun G1 A e1 e2 Q q =>
  h G1 A e1 e2 _ fun v G2 A2 s2 ⟨p, vs, ev, hp, hE⟩ => ⟨p, vs, ev, ex_t s2.v hp, fun l hl => q _ (upd G2 l (.tup vs.reverse)) _ (s2.trans (Step.new s2.v hl)) ⟨l, vs.reverse, rfl, st_of upd_same, IsE.mono (Ex.new (ex_out s2.v hl)) (isE_rev hE)⟩⟩
theorem er_revL {xs : List V} (h : Er K te σ H (.l xs)) : Er K (tRevL K te) σ H (.n xs.reverse) := fun H1 e1 Q q =>
  h H1 e1 _ fun v H2 e2 ⟨p, ev, hp⟩ => ⟨p, xs, ev, hp, fun l hl => q _ _ (e2.trans (Ex.new hl)) ⟨l, rfl, upd_same⟩⟩
end
theorem pe_revT_k {X : Cx} {K : PySem.W.Frag} {e : Expr} {te : TE} {k : Nat} {p1 p2 p3 pos : Pos} (he : PE X e te) (hK : X.K = K := by rfl) : PE X (.Subscript e (.Slice none none (some (.UnaryOp .USub (.Constant (.int 1) k p1) p2)) p3) pos) (tRevT K te) := hK ▸ pe_revT he
theorem pe_revL_k {X : Cx} {K : PySem.W.Frag} {e : Expr} {te : TE} {k : Nat} {p1 p2 p3 pos : Pos} (he : PE X e te) (hK : X.K = K := by rfl) : PE X (.Subscript e (.Slice none none (some (.UnaryOp .USub (.Constant (.int 1) k p1) p2)) p3) pos) (tRevL K te) := hK ▸ pe_revL he
end Mi

set_option maxHeartbeats 2000000
namespace Mi
open PySem PySem.Spec PyProof.Rows L2 Evl
/-! ### all parameters by name, in the other order -/
structure AtW (K : PySem.W.Frag) (mg : Str → Option Value) (x : Str) (st : Stmt) (ps : List Str) : Prop where
  ex : ∃ f fd, mg x = some (.ref f) ∧ Fun K x x st f fd ∧ ∀ (s : Shared) (ws : List Value), ws.length = ps.length → BindsTo s fd ⟨[], ps.reverse.zip ws⟩ (ps.zip ws.reverse)
structure HasW (P : Program) (w : World) (K : PySem.W.Frag) (mg : Str → Option Value) (base : Heap) (k : Nat) (x : Str) (ps : List Str) (sp : Sp) : Prop where
  ex : ∃ f fd, mg x = some (.ref f) ∧ PySem.W.keepIn K (.ref f) = true ∧ FnOk P w K mg base CX0 k f fd ps sp ∧ ∀ (s : Shared) (ws : List Value), ws.length = ps.length → BindsTo s fd ⟨[], ps.reverse.zip ws⟩ (ps.zip ws.reverse)
theorem Fun.okR {P : Program} {w : World} {K : PySem.W.Frag} {mg : Str → Option Value} {base : Heap} {x : Str} {st : Stmt} {f : Addr} {fd : FuncData} {N ps : List Str} {k : Nat} {T : Type} {pre : T → Prop} {args : T → List Dd} {ret : T → Dd}
    (F : Fun K x x st f fd) (Sc : FnScope N ps (defScope st)) (hl : ∀ a, (args a).length = ps.length)
    (hbody : ∀ (cdv : Value) (A : Around) (outer : List Env) (s : Shared) (H : Hp) (a : T) (vs : List V) (Q : VK) (E : XK), Room k (A.deeper (envOfC x (defScope st) s.heap.objs.size f cdv)) → pre a → IsAll K H (args a) vs →
      (∀ v H', Ex H H' → Is K H' (ret a) v → Q v H') →
      ∃ t, PSs (cxOf CX0 P w K mg base N x (defScope st) f cdv A outer s H E).nox (defBody st) t ∧ t { nx := fun _ H' => Q .non H', rt := Q } (start N vs) H) :
    FnOk P w K mg base CX0 (k + 1) f fd ps (spR K pre args ret) := by
  refine F.ok Sc (fun vs H Q E hsp => ?_) (fun cdv A outer s H vs Q E hr hsp => ?_)
  · obtain ⟨a, _, hv, _⟩ := hsp
    rw [← hv.len, hl]
  · obtain ⟨a, hp, hv, hk⟩ := hsp
    exact hbody cdv A outer s H a vs Q E hr hp hv hk
theorem Fun.okF {P : Program} {w : World} {K : PySem.W.Frag} {mg : Str → Option Value} {base : Heap} {x : Str} {st : Stmt} {f : Addr} {fd : FuncData} {N ps : List Str} {k : Nat} {T : Type} {pre : T → Prop} {args : T → List Dd} {ret : T → Dd}
    (F : Fun K x x st f fd) (Sc : FnScope N ps (defScope st)) (hl : ∀ a, (args a).length = ps.length)
    (hbody : ∀ (cdv : Value) (Ar : Around) (outer : List Env) (s : Shared) (G A : Hp) (a : T) (vs : List V) (Q : VK) (E : XK), Room k (Ar.deeper (envOfC x (defScope st) s.heap.objs.size f cdv)) → pre a → Ex G A → IsAll K G (args a) vs →
      (∀ v G' A', Step G A G' A' → Is K G' (ret a) v → Q v A') →
      ∃ t, PSs (cxOf CX0 P w K mg base N x (defScope st) f cdv Ar outer s A E).nox (defBody st) t ∧ t { nx := fun _ A' => Q .non A', rt := Q } (start N vs) A) :
    FnOk P w K mg base CX0 (k + 1) f fd ps (spF K pre args ret) := by
  refine F.ok Sc (fun vs H Q E hsp => ?_) (fun cdv Ar outer s A vs Q E hr hsp => ?_)
  · obtain ⟨a, _, G, _, hv, _⟩ := hsp
    rw [← hv.len, hl]
  · obtain ⟨a, hp, G, hA, hv, hk⟩ := hsp
    exact hbody cdv Ar outer s G A a vs Q E hr hp hA hv hk
theorem At.has {P : Program} {w : World} {K : PySem.W.Frag} {mg : Str → Option Value} {base : Heap} {x : Str} {st : Stmt} {ps : List Str} {k : Nat} {sp : Sp} (h : At K mg x st ps) (hf : ∀ {f fd}, Fun K x x st f fd → FnOk P w K mg base CX0 k f fd ps sp) : Has P w K mg base k x ps sp := by
  obtain ⟨f, fd, hm, F, b0, b1, b2⟩ := h.ex
  exact ⟨f, fd, hm, F.kp, hf F, b0, b1, b2⟩
theorem AtW.has {P : Program} {w : World} {K : PySem.W.Frag} {mg : Str → Option Value} {base : Heap} {x : Str} {st : Stmt} {ps : List Str} {k : Nat} {sp : Sp} (h : AtW K mg x st ps) (hf : ∀ {f fd}, Fun K x x st f fd → FnOk P w K mg base CX0 k f fd ps sp) : HasW P w K mg base k x ps sp := by
  obtain ⟨f, fd, hm, F, b⟩ := h.ex
  exact ⟨f, fd, hm, F.kp, hf F, b⟩
theorem pe_bm0_k {X : Cx} {K : PySem.W.Frag} {o : Expr} {to : TE} {name : Str} {apos cpos : Pos} {T id : String} {r : V → List V → Hp → VK → Prop} (pa : PlainAttrs T) (slot : Slot T name id) (hty : typeOf (.builtin id) = pure (.type "method_descriptor")) (hm : MtR X id r) (ho : PE X o to)
    (hK : X.K = K := by rfl) (hbase : attributeBase o name X.env (eval o X.env) = eval o X.env := by rfl) (hline : (apos.endLine == cpos.line) = true := by rfl) : PE X (.Call (.Attribute o name apos) [] [] cpos) (tBM0 K T r to) := hK ▸ pe_bm0 pa slot hty hm ho hbase hline
def tCallW (sp : Sp) (t : TA) : TE := fun σ H Q => t σ H fun vs H2 => sp vs.reverse H2 Q E0
theorem pe_callW {X : Cx} {k : Nat} {ps : List Str} {sp : Sp} {x : Str} {p pos : Pos} {kws : List Keyword} {t : TA} (F : HasW X.prog X.w X.K X.mg X.base k x ps sp) (hr : Room k X.A) (hkw : PK X kws t) (hg : Gl X x := by rfl) (hdb : (x == ("__debug__" : Str)) = false := by decide)
    (hall : (backToKw pos (keywordEach kws X.env)).all (·.1.isSome) = true := by rfl)
    (hks : (backToKw pos (keywordEach kws X.env)).filterMap (·.1) = ps.reverse := by rfl)
    (hpl : (backToKw pos (keywordEach kws X.env)).any (·.1.isNone) = false := by rfl) :
    PE X (.Call (.Name x p) [] kws pos) (tCallW sp t) := by
  obtain ⟨f, fd, hm, hk, F, hb⟩ := F.ex
  refine ⟨fun pins s σ H Q I h => ?_⟩
  refine wpAny_Call_Name_kw (ld_glob I hg hm ?_ hdb)
  refine PySem.W.callWith_KW0 (h₀ := X.base) I.ok.mod.kin hk hall (thn (hkw.run pos pins s σ H _ I h) fun ws s2 ⟨zs, H2, I2, rz, q2⟩ => ⟨I2.kIn, ?_⟩) hpl
  rw [hks]
  have hl := F.len _ _ _ _ q2
  rw [List.length_reverse] at hl
  have hw : ws.length = ps.length := by rw [← rz.length]; exact hl
  refine wpAny_call (codeAny_mono (F.run X.A X.stack s2 H2 ⟨[], ps.reverse.zip ws⟩ ws.reverse zs.reverse Q E0 hr I2.env0 (hb s2 ws hw) rz.reverse q2) fun r s' hq => ?_)
  cases r with
  | error e => exact pass0 pins σ H2 s2 e s' I2 hq
  | ok fl =>
    cases fl with
    | ret u => exact I2.after hq
    | next => exact False.elim hq
    | brk => exact False.elim hq
    | cont => exact False.elim hq
section
variable {K : PySem.W.Frag} {σ : L2.St} {G H : Hp} {te : TE} {tr : TA} {d : Dd} {ds : List Dd} {D : Ends} {tz : TS}
theorem isAll_app : ∀ {as bs : List Dd} {us vs : List V}, IsAll K H as us → IsAll K H bs vs → IsAll K H (as ++ bs) (us ++ vs)
  | _, _, _, _, .nil, b => b
  | _, _, _, _, .cons a r, b => .cons a (isAll_app r b)
theorem isAll_rev : ∀ {ds : List Dd} {vs : List V}, IsAll K H ds vs → IsAll K H ds.reverse vs.reverse
  | _, _, .nil => .nil
  | _, _, .cons a r => by
    rw [List.reverse_cons, List.reverse_cons]
    exact isAll_app (isAll_rev r) (.cons a .nil)
theorem er_callW {T : Type} {pre : T → Prop} {args : T → List Dd} {ret : T → Dd} (a : T) (h : Era K tr σ H ds) (hd : ds.reverse = args a) (hp : pre a) : Er K (tCallW (spR K pre args ret) tr) σ H (ret a) := fun H1 e Q q =>
  h H1 e _ fun vs H2 e2 z => ⟨a, hp, hd ▸ isAll_rev z, fun v H' e3 hv => q v H' (e2.trans e3) hv⟩
theorem er_callWF {T : Type} {pre : T → Prop} {args : T → List Dd} {ret : T → Dd} (a : T) (h : Era K tr σ H ds) (hd : ds.reverse = args a) (hp : pre a) : Er K (tCallW (spF K pre args ret) tr) σ H (ret a) := fun H1 e Q q =>
  h H1 e _ fun vs H2 e2 z => ⟨a, hp, H2, Ex.refl _, hd ▸ isAll_rev z, fun v G' A' s hv => q v A' (e2.trans s.a) (hv.mono s.v)⟩
/-! ### isinstance of an object of ours -/
theorem kit_own {C : Addr} : PySem.W.kitOne K (.ref C) (.ref C) = some true := by
  unfold PySem.W.kitOne
  rw [if_pos (by simp)]
theorem rc_isiO {C : Addr} (O : ObTy K C) (ht : ∀ H1 v, Is K H1 d v → ∃ a dx fs, v = .ref a ∧ H1 a = some (.ins C dx fs)) : Rc K (rIsi K) [d, .v (.ref C)] (.b true) := fun vs H1 h Q q => by
  rcases h with _ | ⟨h1, _ | ⟨h2, _ | _⟩⟩
  rename_i v u
  obtain ⟨a, dx, fs, rfl, hx⟩ := ht H1 v h1
  obtain rfl : u = V.ref C := h2
  exact ⟨_, _, _, _, true, rfl, .own C, .base (.ins hx O.cl O.fc O.sp O.tk O.mr), kit_own, q _ H1 (Ex.refl _) rfl⟩
/-! ### != of tuples -/
theorem ro_neU {ns ms : List Int} : Ro K (rNeD K) (.u (vis ns)) (.u (vis ms)) (.v (.bl (!decide (ns = ms)))) := by
  rintro _ _ H1 ⟨p, rfl, hp⟩ ⟨p', rfl, hp'⟩ Q q
  refine ⟨_, _, .tup hp (dpAll_ints ns), .tup hp' (dpAll_ints ms), shaped_tup ns, shaped_tup ms, q _ H1 (Ex.refl H1) ?_⟩
  show V.bl (!PyData.eqvAll _ _) = _
  rw [eqv_ints]
/-! ### xs.clear(), xs.extend(ys) -/
theorem s_clear {l : Addr} {xs : List V} (hl : H l = some (.lst xs)) (ha : Er K te σ H (.v (.ref l))) (k : ∀ H1, Ex H H1 → tz D σ (upd H1 l (.lst []))) : tSeq (tDrop (tBM0 K "list" rClear te)) tz D σ H :=
  ha H (Ex.refl _) _ fun v H1 e z => by
    obtain rfl : v = V.ref l := z
    exact ⟨Or.inl ⟨rfl, xs, sq_of (e l _ hl)⟩, l, xs, rfl, rfl, e l _ hl, k H1 e⟩
theorem s_extend {l : Addr} {xs zs : List V} (hl : H l = some (.lst xs)) (ha : Er K te σ H (.v (.ref l))) (h : Era K tr σ H [.n zs]) (hz : xs.length + zs.length ≤ 100000) (k : ∀ H1, Ex H H1 → tz D σ (upd H1 l (.lst (xs ++ zs)))) : tSeq (tDrop (tBM K "list" rExtend te tr)) tz D σ H :=
  ha H (Ex.refl _) _ fun v H1 e z => by
    obtain rfl : v = V.ref l := z
    refine ⟨Or.inl ⟨rfl, xs, sq_of (e l _ hl)⟩, h H1 e _ fun vs H2 e2 z2 => ?_⟩
    rcases z2 with _ | ⟨⟨p, rfl, hp⟩, _ | _⟩
    exact ⟨l, p, xs, zs, rfl, rfl, e2 l _ (e l _ hl), hp, sz_of hz, k H2 (e.trans e2)⟩
end
end Mi

set_option maxHeartbeats 4000000
namespace Mi
open PySem PySem.Spec PyProof.Rows L2 Evl
def topS (i : Nat) : Stmt := PySem.Challenge.pw_stampsheets_k10_making_whole.main.body.getD i (.Pass ⟨0, 0, 0, 0⟩)
def letters : List Nat := [97, 98, 99, 100, 101, 102, 103, 104, 105, 106, 107, 108, 109, 110, 111, 112, 113, 114, 115, 116, 117, 118, 119, 120, 121, 122]
def alls : List Nat := 46 :: letters
def signs : List Nat := 45 :: alls
def digits : List Nat := [48, 49, 50, 51, 52, 53, 54, 55, 56, 57]
/-- what the top leaves of the names that the defs read -/
structure Txt (K : PySem.W.Frag) (mg : Str → Option Value) : Prop where
  g_DASH : ∃ t, mg "DASH" = some (.str (S [45]) t)
  g_LETTERS : ∃ t, mg "LETTERS" = some (.str (S letters) t)
  g_MARKS : ∃ t, mg "MARKS" = some (.str (S alls) t)
  g_LONGEST : ∃ t, mg "LONGEST" = some (.int 30 t)
  g_DIGITS : ∃ t, mg "DIGITS" = some (.str (S digits) t)
  g_LONGEST_NAME : ∃ t, mg "LONGEST_NAME" = some (.int 8 t)
  b_len : mg "len" = none
  b_int : mg "int" = none
  b_bool : mg "bool" = none
  b_str : mg "str" = none
  b_tuple : mg "tuple" = none
  b_list : mg "list" = none
  b_zip : mg "zip" = none
  b_enumerate : mg "enumerate" = none
  b_range : mg "range" = none
  b_max : mg "max" = none
  b_min : mg "min" = none
  b_sum : mg "sum" = none
  b_all : mg "all" = none
  b_any : mg "any" = none
  b_isinstance : mg "isinstance" = none
  b_iter : mg "iter" = none
local macro_rules | `(tactic| walk_at "side") => `(tactic| (first | assumption | omega | exact rfl | decide | (simp only [List.length_cons, List.length_nil, List.length_map, List.length_append, List.length_replicate] <;> omega)))
local macro_rules | `(tactic| walk_at "ro") => `(tactic| (first
  | with_reducible exact ro_I0
  | with_reducible exact ro_1018
  | with_reducible exact ro_neC
  | with_reducible exact ro_eqC
  | with_reducible exact ro_neI
  | with_reducible exact ro_eqI
  | with_reducible exact ro_neB
  | with_reducible exact ro_eqB
  | ((with_reducible apply ro_mod); (walk_at "side"))
  | ((with_reducible apply ro_div) <;> (walk_at "side"))
  | ((with_reducible apply ro_divW) <;> (walk_at "side"))
  | with_reducible exact ro_1012
  | with_reducible exact ro_1015
  | ((with_reducible apply ro_mulL) <;> (walk_at "side"))
  | ((with_reducible apply ro_mulR) <;> (walk_at "side"))
  | ((with_reducible apply ro_addC); (walk_at "side"))
  | ((with_reducible apply ro_ixC) <;> (walk_at "side"))
  | ((with_reducible apply ro_ixI) <;> (walk_at "side"))
  | ((with_reducible apply ro_ixIN) <;> (walk_at "side"))
  | ((with_reducible apply ro_ixT2) <;> (walk_at "side"))
  | ((with_reducible apply ro_ixG) <;> (walk_at "side"))
  | ((with_reducible apply ro_eq); exact rfl)
  | ((with_reducible apply ro_ne); exact rfl)
  | with_reducible exact ro_isN
  | with_reducible exact ro_notN
  | with_reducible exact ro_eqL
  | with_reducible exact ro_neL
  | with_reducible exact ro_eqU
  | ((with_reducible apply ro_cat); (walk_at "side"))
  | with_reducible exact ro_inLi
  | with_reducible exact ro_inNi
  | with_reducible exact ro_inUi
  | ((with_reducible apply ro_inL) <;> (walk_at "side"))
  | ((with_reducible apply ro_inN) <;> (walk_at "side"))
  | ((with_reducible apply ro_inU) <;> (walk_at "side"))))
local macro_rules | `(tactic| walk_at "rc") => `(tactic| (first
  | with_reducible exact rc_int
  | with_reducible exact rc_intB
  | with_reducible exact rc_max2
  | ((with_reducible apply rc_lenC); (walk_at "side"))
  | with_reducible exact rc_lenI
  | with_reducible exact rc_lenT
  | with_reducible exact rc_lenIN
  | with_reducible exact rc_lenTN
  | with_reducible exact rc_lenL
  | with_reducible exact rc_lenN
  | with_reducible exact rc_lenU
  | with_reducible exact rc_listL
  | with_reducible exact rc_listU
  | with_reducible exact rc_tupL
  | with_reducible exact rc_tupN
  | ((with_reducible apply rc_isi_int); decide +kernel)
  | ((with_reducible apply rc_isi_str); decide +kernel)
  | ((with_reducible apply rc_isi_bl); decide +kernel)
  | ((with_reducible apply rc_isi_non); decide +kernel)
  | ((with_reducible apply rc_isi_u); decide +kernel)
  | ((with_reducible apply rc_isi_l); decide +kernel)))
local macro_rules | `(tactic| walk_at "er") => `(tactic| (first
  | ((with_reducible apply er_var); (exact rfl); assumption)
  | ((with_reducible apply er_v); exact rfl)
  | with_reducible exact er_c
  | ((with_reducible apply er_pick); (walk_at "er"); (walk_at "er"); (walk_at "er"))
  | ((with_reducible apply er_op); (walk_at "er"); (walk_at "er"); (walk_at "ro"))
  | ((with_reducible apply er_cb); (walk_at "era"); (walk_at "rc"))
  | ((with_reducible apply er_lst'); (walk_at "era"); (exact rfl); (walk_at "side"))
  | ((with_reducible apply er_tup'); (walk_at "era"); (exact rfl); (walk_at "side"))
  | ((with_reducible apply er_notV); (walk_at "er"))
  | ((with_reducible apply er_andV); (walk_at "er"); (intro _; (walk_at "er")))
  | ((with_reducible apply er_orV); (walk_at "er"); (intro _; (walk_at "er")))
  | ((with_reducible apply er_ite); (walk_at "et"); (intro _; (walk_at "er")); (intro _; (walk_at "er")))))
local macro_rules | `(tactic| walk_at "era") => `(tactic| (first
  | with_reducible exact era_nil
  | ((with_reducible apply era_cons); (walk_at "er"); (walk_at "era"))))
local macro_rules | `(tactic| walk_at "et") => `(tactic| (first
  | ((with_reducible apply et_an); (walk_at "et"); (intro _; (walk_at "et")))
  | ((with_reducible apply et_orr); (walk_at "et"); (intro _; (walk_at "et")))
  | ((with_reducible apply et_nt); (walk_at "et"))
  | ((with_reducible apply et1); (walk_at "er"))
  | ((with_reducible apply et2); (walk_at "er"))))

section
variable {P : Program} {w : World} {K : PySem.W.Frag} {mg : Str → Option Value} {base : Heap}

def okP (p : Nat × Nat) : Bool := p.1 == p.2 || (p.1 == 45 || p.2 == 45)
def agreeM (a b : List Nat) : Bool := (a.zip b).all okP
theorem zip_at {a b : List Nat} {i c d : Nat} (h1 : a[i]? = some c) (h2 : b[i]? = some d) : (a.zip b)[i]? = some (c, d) := List.getElem?_zip_eq_some (z := (c, d)) |>.mpr ⟨h1, h2⟩
theorem all_next {α : Type} {l : List α} {p : α → Bool} {i : Nat} {x : α} (h : l[i]? = some x) : (l.take (i + 1)).all p = ((l.take i).all p && p x) := by
  rw [List.take_add_one, h, List.all_append]
  simp
theorem all_end {α : Type} {l : List α} {p : α → Bool} : (l.take l.length).all p = l.all p := by rw [List.take_length]
theorem all_not {α : Type} {l : List α} {p : α → Bool} {i : Nat} {x : α} (h : l[i]? = some x) (hp : p x = false) : l.all p = false := by
  rw [List.all_eq_false]
  exact ⟨x, List.mem_of_getElem? h, by rw [hp]; exact Bool.false_ne_true⟩
abbrev s__law_cell : Stmt := topS 42
theorem sc__law_cell : FnScope ["script", "k", "seed", "cell"] ["script", "k"] (defScope s__law_cell) := ⟨rfl, rfl, rfl, by decide +kernel, rfl, by decide +kernel, by decide +kernel⟩

def seedM (ns : List Int) : Int := ns.foldl (fun s c => (s * 31 + c % 1000003) % 1000003) 3541
theorem seedM_next {ns : List Int} {i : Nat} {x : Int} (h : ns[i]? = some x) : seedM (ns.take (i + 1)) = (seedM (ns.take i) * 31 + x % 1000003) % 1000003 := by
  unfold seedM
  rw [List.take_add_one, h, List.foldl_append]
  rfl
theorem seedM_bound (ns : List Int) : 0 ≤ seedM ns ∧ seedM ns < 1000003 := by
  unfold seedM
  suffices h : ∀ (l : List Int) (s : Int), 0 ≤ s ∧ s < 1000003 → 0 ≤ l.foldl (fun s c => (s * 31 + c % 1000003) % 1000003) s ∧ l.foldl (fun s c => (s * 31 + c % 1000003) % 1000003) s < 1000003 from h ns 3541 (by omega)
  intro l
  induction l with
  | nil => intro s h; exact h
  | cons c r ih => intro s h; exact ih ((s * 31 + c % 1000003) % 1000003) (by omega)
def cellM (ns : List Int) (k : Nat) : Int := if k < ns.length then ns.getD k 0 else ((seedM ns + 7) * ((k : Int) + 3) * 69621) % 2147483647
abbrev sp__law_cell (K : PySem.W.Frag) : Sp := spR K (fun a : List Int × Nat => a.1.length ≤ 63 ∧ a.2 ≤ 1000) (fun a => [.l (vis a.1), .i (a.2 : Int)]) fun a => .i (cellM a.1 a.2)
theorem has__law_cell (T : Txt K mg) (h : At K mg "_law_cell" s__law_cell ["script", "k"]) : Has P w K mg base 1 "_law_cell" ["script", "k"] (sp__law_cell K) := by
  refine h.hasR sc__law_cell (fun _ => rfl) fun f cdv A outer s H a vs Q E hr hp hv hk => ?_
  obtain ⟨ns, k⟩ := a
  obtain ⟨hl, hk1⟩ := hp
  replace hl : ns.length ≤ 63 := hl
  replace hk1 : k ≤ 1000 := hk1
  rcases hv with _ | ⟨hs, _ | ⟨rfl, _ | _⟩⟩
  obtain ⟨p, rfl, hS⟩ := hs
  have hs : Is K H (.l (vis ns)) (.ref p) := ⟨p, rfl, hS⟩
  have sc := sc__law_cell
  refine ⟨_, (pss_cons (ps_if (pt_cmpR op_lt (pv 1) (pe_callB (cr_len_k (K := K)) (by rfl) T.b_len (by decide +kernel) (pa_cons (pv 0) pa_nil)) (nomark _)) (pss_one (ps_ret (pe_ix (ix_list_k (K := K)) (pv 0) (pv 1) (fun _ _ => rfl)))) pss_nil)
    (pss_cons (ps_set (i := 2) sc.nd rfl (Or.inl rfl) pe_int)
    (pss_cons (ps_for PassesOwn.never rfl (pi_list_k (K := K) (pv 0)) (pg_name (i := 3) sc.nd rfl (Or.inl rfl)) (pss_one (ps_set (i := 2) sc.nd rfl (Or.inl rfl) (pe_op op_mod (pe_callTy cr_int (by rfl) T.b_int (by decide +kernel) (pa_cons (pe_op op_add (pe_op op_mul (pv 2) pe_int) (pe_op op_mod (pe_callTy cr_int (by rfl) T.b_int (by decide +kernel) (pa_cons (pv 3) pa_nil)) pe_int)) pa_nil)) pe_int))))
    (pss_one (ps_ret (pe_op op_mod (pe_callTy cr_int (by rfl) T.b_int (by decide +kernel) (pa_cons (pe_op op_mul (pe_op op_mul (pe_op op_add (pv 2) pe_int) (pe_op op_add (pv 1) pe_int)) pe_int) pa_nil)) pe_int)))))), ?_⟩
  refine' a_when (K := K) ?g1 ?g2 ?g3
  case g1 => walk_at "et"
  case g2 =>
    intro hb H1 e1
    have hb' : k < ns.length := by simpa using hb
    replace hs := hs.mono e1
    refine' a_rete (K := K) ?g4 ?g5 e1 hk
    case g4 => walk_at "er"
    show Dd.i _ = Dd.i (if k < ns.length then _ else _)
    rw [if_pos hb']
    rfl
  case g3 =>
    intro hb H1 e1
    have hb' : ¬ k < ns.length := by simpa using hb
    refine' a_setv (K := K) ?g6 ?g7
    case g6 => walk_at "er"
    intro H2 e2
    refine b_forA (K := K) (a := p) (xs := vis ns) (er_v rfl) (ex_l (e1.trans e2) hS) (fun i σ' H' => ∃ y, σ' = [some (.ref p), some (.int (k : Int)), some (.int (seedM (ns.take i))), y] ∧ Ex H H') (fun H3 e3 => ⟨none, rfl, (e1.trans e2).trans e3⟩) (fun i σ' H' _ ⟨_, _, e⟩ => ex_l e hS) ?_ ?_
    · rintro i x σ' H' hx ⟨y, rfl, e⟩
      obtain ⟨n, hn, rfl⟩ : ∃ n, ns[i]? = some n ∧ V.int n = x := by
        rw [List.getElem?_map] at hx
        cases q : ns[i]? with
        | none => rw [q] at hx; cases hx
        | some n => rw [q] at hx; exact ⟨n, rfl, Option.some.inj hx⟩
      have hb := seedM_bound (ns.take i)
      refine' a_setv1 (K := K) ?g8 ?g9
      case g8 => walk_at "er"
      intro H4 e4
      refine ⟨some (.int n), ?_, e.trans e4⟩
      rw [seedM_next hn]
      rfl
    · rintro σ' H' ⟨y, rfl, e⟩
      rw [List.length_map, List.take_length]
      have hb := seedM_bound ns
      refine' a_rete (K := K) ?g10 ?g11 e hk
      case g10 => walk_at "er"
      show Dd.i _ = Dd.i (if k < ns.length then _ else _)
      rw [if_neg hb']
def rsM (x : Int) (sizes : List Int) (j : Nat) : Int := (sizes.take j).foldl (fun a b => a / b) x
theorem rsM_next {x b : Int} {sizes : List Int} {j : Nat} (h : sizes[j]? = some b) : rsM x sizes (j + 1) = rsM x sizes j / b := by
  unfold rsM
  rw [List.take_add_one, h, List.foldl_append]
  rfl
def sdM (s0 : Int) : Nat → Int
  | 0 => s0
  | i + 1 => (sdM s0 i * 48271 + 974711 * (i : Int) + 12345) % 2147483647
def twM (s : Int) : Int := (s * (s / 65537 + 3)) % 2147483629
def draw1 (x : Int) (sizes : List Int) : List Int := sizes.zipIdx.map fun p => rsM x sizes p.2 % p.1
def draw2 (s0 : Int) (sizes : List Int) : List Int := sizes.zipIdx.map fun p => twM (sdM s0 (p.2 + 1)) / 19 % p.1
end
end Mi

set_option maxHeartbeats 4000000
namespace Mi
open PySem PySem.Spec PyProof.Rows L2 Evl
local macro_rules | `(tactic| walk_at "side") => `(tactic| (first | assumption | omega | exact rfl | decide | (simp only [List.length_cons, List.length_nil, List.length_map, List.length_append, List.length_replicate] <;> omega)))
local macro_rules | `(tactic| walk_at "ro") => `(tactic| (first
  | with_reducible exact ro_I0
  | with_reducible exact ro_1018
  | with_reducible exact ro_neC
  | with_reducible exact ro_eqC
  | with_reducible exact ro_neI
  | with_reducible exact ro_eqI
  | with_reducible exact ro_neB
  | with_reducible exact ro_eqB
  | ((with_reducible apply ro_mod); (walk_at "side"))
  | ((with_reducible apply ro_div) <;> (walk_at "side"))
  | ((with_reducible apply ro_divW) <;> (walk_at "side"))
  | with_reducible exact ro_1012
  | with_reducible exact ro_1015
  | ((with_reducible apply ro_mulL) <;> (walk_at "side"))
  | ((with_reducible apply ro_mulR) <;> (walk_at "side"))
  | ((with_reducible apply ro_addC); (walk_at "side"))
  | ((with_reducible apply ro_ixC) <;> (walk_at "side"))
  | ((with_reducible apply ro_ixI) <;> (walk_at "side"))
  | ((with_reducible apply ro_ixIN) <;> (walk_at "side"))
  | ((with_reducible apply ro_ixT2) <;> (walk_at "side"))
  | ((with_reducible apply ro_ixG) <;> (walk_at "side"))
  | ((with_reducible apply ro_eq); exact rfl)
  | ((with_reducible apply ro_ne); exact rfl)
  | with_reducible exact ro_isN
  | with_reducible exact ro_notN
  | with_reducible exact ro_eqL
  | with_reducible exact ro_neL
  | with_reducible exact ro_eqU
  | ((with_reducible apply ro_cat); (walk_at "side"))
  | with_reducible exact ro_inLi
  | with_reducible exact ro_inNi
  | with_reducible exact ro_inUi
  | ((with_reducible apply ro_inL) <;> (walk_at "side"))
  | ((with_reducible apply ro_inN) <;> (walk_at "side"))
  | ((with_reducible apply ro_inU) <;> (walk_at "side"))))
local macro_rules | `(tactic| walk_at "rc") => `(tactic| (first
  | with_reducible exact rc_int
  | with_reducible exact rc_intB
  | with_reducible exact rc_max2
  | ((with_reducible apply rc_lenC); (walk_at "side"))
  | with_reducible exact rc_lenI
  | with_reducible exact rc_lenT
  | with_reducible exact rc_lenIN
  | with_reducible exact rc_lenTN
  | with_reducible exact rc_lenL
  | with_reducible exact rc_lenN
  | with_reducible exact rc_lenU
  | with_reducible exact rc_listL
  | with_reducible exact rc_listU
  | with_reducible exact rc_tupL
  | with_reducible exact rc_tupN
  | ((with_reducible apply rc_isi_int); decide +kernel)
  | ((with_reducible apply rc_isi_str); decide +kernel)
  | ((with_reducible apply rc_isi_bl); decide +kernel)
  | ((with_reducible apply rc_isi_non); decide +kernel)
  | ((with_reducible apply rc_isi_u); decide +kernel)
  | ((with_reducible apply rc_isi_l); decide +kernel)))
local macro_rules | `(tactic| walk_at "er") => `(tactic| (first
  | ((with_reducible apply er_var); (exact rfl); assumption)
  | ((with_reducible apply er_v); exact rfl)
  | with_reducible exact er_c
  | ((with_reducible apply er_pick); (walk_at "er"); (walk_at "er"); (walk_at "er"))
  | ((with_reducible apply er_op); (walk_at "er"); (walk_at "er"); (walk_at "ro"))
  | ((with_reducible apply er_cb); (walk_at "era"); (walk_at "rc"))
  | ((with_reducible apply er_lst'); (walk_at "era"); (exact rfl); (walk_at "side"))
  | ((with_reducible apply er_tup'); (walk_at "era"); (exact rfl); (walk_at "side"))
  | ((with_reducible apply er_notV); (walk_at "er"))
  | ((with_reducible apply er_andV); (walk_at "er"); (intro _; (walk_at "er")))
  | ((with_reducible apply er_orV); (walk_at "er"); (intro _; (walk_at "er")))
  | ((with_reducible apply er_ite); (walk_at "et"); (intro _; (walk_at "er")); (intro _; (walk_at "er")))))
local macro_rules | `(tactic| walk_at "era") => `(tactic| (first
  | with_reducible exact era_nil
  | ((with_reducible apply era_cons); (walk_at "er"); (walk_at "era"))))
local macro_rules | `(tactic| walk_at "et") => `(tactic| (first
  | ((with_reducible apply et_an); (walk_at "et"); (intro _; (walk_at "et")))
  | ((with_reducible apply et_orr); (walk_at "et"); (intro _; (walk_at "et")))
  | ((with_reducible apply et_nt); (walk_at "et"))
  | ((with_reducible apply et1); (walk_at "er"))
  | ((with_reducible apply et2); (walk_at "er"))))

section
variable {P : Program} {w : World} {K : PySem.W.Frag} {mg : Str → Option Value} {base : Heap}

abbrev s__law_digits : Stmt := topS 43
theorem sc__law_digits : FnScope ["cell", "sizes", "line", "rest", "size", "seed", "k", "twice"] ["cell", "sizes"] (defScope s__law_digits) := ⟨rfl, rfl, rfl, by decide +kernel, rfl, by decide +kernel, by decide +kernel⟩

def digM (x : Int) (sizes : List Int) : List Int := if 1000000000000000000 ≤ x then draw1 (x - 1000000000000000000) sizes else draw2 (x % 2147483629) sizes
theorem digM_len (x : Int) (sizes : List Int) : (digM x sizes).length = sizes.length := by
  unfold digM draw1 draw2
  split <;> simp
theorem digM_bd {x : Int} {sizes : List Int} (hs : ∀ s ∈ sizes, 0 < s) {i : Nat} (h : i < sizes.length) : 0 ≤ (digM x sizes).getD i 0 ∧ (digM x sizes).getD i 0 < sizes.getD i 0 := by
  have hb : 0 < sizes[i] := hs _ (List.getElem_mem h)
  have e : sizes[i]? = some sizes[i] := List.getElem?_eq_getElem h
  rw [List.getD_eq_getElem?_getD, List.getD_eq_getElem?_getD, e]
  unfold digM
  split
  · unfold draw1
    rw [List.getElem?_map, zipIdx_at e]
    exact ⟨Int.emod_nonneg _ (by omega), Int.emod_lt_of_pos _ hb⟩
  · unfold draw2
    rw [List.getElem?_map, zipIdx_at e]
    exact ⟨Int.emod_nonneg _ (by omega), Int.emod_lt_of_pos _ hb⟩
abbrev sp__law_digits (K : PySem.W.Frag) : Sp := spR K (fun a : Int × List Int => a.2.length ≤ 1000 ∧ ∀ s ∈ a.2, 0 < s ∧ s < 1000000) (fun a => [.i a.1, .l (vis a.2)]) fun a => .n (vis (digM a.1 a.2))
theorem has__law_digits (T : Txt K mg) (h : At K mg "_law_digits" s__law_digits ["cell", "sizes"]) : Has P w K mg base 1 "_law_digits" ["cell", "sizes"] (sp__law_digits K) := by
  refine h.hasR sc__law_digits (fun _ => rfl) fun f cdv A outer s H a vs Q E hr hp hv hk => ?_
  obtain ⟨x, sizes⟩ := a
  obtain ⟨hz, hpos⟩ := hp
  replace hz : sizes.length ≤ 1000 := hz
  replace hpos : ∀ s ∈ sizes, 0 < s ∧ s < 1000000 := hpos
  rcases hv with _ | ⟨rfl, _ | ⟨⟨pz, rfl, hZ⟩, _ | _⟩⟩
  have hzz : Is K H (.l (vis sizes)) (.ref pz) := ⟨pz, rfl, hZ⟩
  have sc := sc__law_digits
  refine ⟨_, (pss_cons (ps_set (i := 2) sc.nd rfl (Or.inl rfl) (pe_lst pa_nil))
    (pss_cons (ps_set (i := 3) sc.nd rfl (Or.inl rfl) (pe_callTy cr_int (by rfl) T.b_int (by decide +kernel) (pa_cons (pv 0) pa_nil)))
    (pss_cons (ps_if (pt_cmpR op_ge (pv 3) (pe_op op_pow pe_int pe_int) (nomark _)) (pss_cons (ps_set (i := 3) sc.nd rfl (Or.inl rfl) (pe_op op_sub (pv 3) (pe_op op_pow pe_int pe_int)))
    (pss_cons (ps_for PassesOwn.never rfl (pi_list_k (K := K) (pv 1)) (pg_name (i := 4) sc.nd rfl (Or.inl rfl)) (pss_cons (ps_expr (pe_bm_k (K := K) PySem.F.plainAttrs_list PySem.F.slot_list_append PySem.F.type_list_append mt_append (pv 2) (pa_cons (pe_op op_mod (pe_callTy cr_int (by rfl) T.b_int (by decide +kernel) (pa_cons (pv 3) pa_nil)) (pv 4)) pa_nil)))
    (pss_one (ps_set (i := 3) sc.nd rfl (Or.inl rfl) (pe_op op_fdiv (pe_callTy cr_int (by rfl) T.b_int (by decide +kernel) (pa_cons (pv 3) pa_nil)) (pv 4))))))
    (pss_one (ps_ret (pv 2))))) pss_nil)
    (pss_cons (ps_set (i := 5) sc.nd rfl (Or.inl rfl) (pe_op op_mod (pe_callTy cr_int (by rfl) T.b_int (by decide +kernel) (pa_cons (pv 3) pa_nil)) pe_int))
    (pss_cons (ps_for PassesOwn.never rfl (pi_range1 (by rfl) T.b_range (pa_cons (pe_callB (cr_len_k (K := K)) (by rfl) T.b_len (by decide +kernel) (pa_cons (pv 1) pa_nil)) pa_nil)) (pg_name (i := 6) sc.nd rfl (Or.inl rfl)) (pss_cons (ps_set (i := 5) sc.nd rfl (Or.inl rfl) (pe_op op_mod (pe_callTy cr_int (by rfl) T.b_int (by decide +kernel) (pa_cons (pe_op op_add (pe_op op_add (pe_op op_mul (pv 5) pe_int) (pe_op op_mul pe_int (pv 6))) pe_int) pa_nil)) pe_int))
    (pss_cons (ps_set (i := 7) sc.nd rfl (Or.inl rfl) (pe_op op_mod (pe_callTy cr_int (by rfl) T.b_int (by decide +kernel) (pa_cons (pe_op op_mul (pv 5) (pe_op op_add (pe_op op_fdiv (pv 5) pe_int) pe_int)) pa_nil)) pe_int))
    (pss_one (ps_expr (pe_bm_k (K := K) PySem.F.plainAttrs_list PySem.F.slot_list_append PySem.F.type_list_append mt_append (pv 2) (pa_cons (pe_op op_mod (pe_op op_fdiv (pv 7) pe_int) (pe_ix (ix_list_k (K := K)) (pv 1) (pv 6) (fun _ _ => rfl))) pa_nil)))))))
    (pss_one (ps_ret (pv 2)))))))), ?_⟩
  refine a_new fun o H1 ho e1 h1 => ?_
  refine' a_setv (K := K) (x := .int x) ?g1 ?g2
  case g1 => walk_at "er"
  intro H2 e2
  have h2 := e2 o _ h1
  refine' a_when (K := K) ?g3 ?g4 ?g5
  case g3 => walk_at "et"
  case g4 =>
    intro hb H3 e3
    have hb' : 1000000000000000000 ≤ x := by simpa using hb
    refine' a_setv (K := K) ?g6 ?g7
    case g6 => walk_at "er"
    intro H4 e4
    have h4 := e4 o _ (e3 o _ h2)
    have E4 : Ex H H4 := ((e1.trans e2).trans e3).trans e4
    refine b_forA (K := K) (a := pz) (xs := vis sizes) (er_v rfl) (ex_l E4 hZ) (fun i σ' H' => ∃ y, σ' = [some (.int x), some (.ref pz), some (.ref o), some (.int (rsM (x - 1000000000000000000) sizes i)), y, none, none, none] ∧ Ex H H' ∧ H' o = some (.lst (vis ((sizes.zipIdx.take i).map fun p => rsM (x - 1000000000000000000) sizes p.2 % p.1)))) (fun H5 e5 => ⟨none, rfl, E4.trans e5, e5 o _ h4⟩) (fun i σ' H' _ ⟨_, _, e, _⟩ => ex_l e hZ) ?_ ?_
    · rintro i y0 σ' H' hx ⟨y, rfl, e, hO⟩
      obtain ⟨n, hn, rfl⟩ := vis_at hx
      have hn2 := hpos n (List.mem_of_getElem? hn)
      have hn3 : 0 < n := hn2.1
      have hi : i < sizes.length := (List.getElem?_eq_some_iff.mp hn).1
      refine' b_app (K := K) hO (er_v rfl) ?g8 (by rw [List.length_map, List.length_map, List.length_take]; omega) ?g9
      case g8 => walk_at "er"
      intro H5 e5
      have E5 : Ex H (upd H5 o (.lst (vis ((sizes.zipIdx.take i).map fun p => rsM (x - 1000000000000000000) sizes p.2 % p.1) ++ [.int (rsM (x - 1000000000000000000) sizes i % n)]))) := Ex.mut (e.trans e5) ho
      refine' a_setv1 (K := K) ?g10 ?g11
      case g10 => walk_at "er"
      intro H6 e6
      refine ⟨some (.int n), ?_, E5.trans e6, ?_⟩
      · rw [rsM_next hn]
        rfl
      · rw [e6 o _ upd_same, map_take_next (zipIdx_at hn), vis_app]
    · rintro σ' H' ⟨y, rfl, e, hO⟩
      refine a_rete (K := K) (er_var (K := K) (d := .n (vis (digM x sizes))) rfl ⟨o, rfl, ?_⟩) rfl e hk
      rw [hO, List.length_map, List.take_of_length_le (by rw [List.length_zipIdx]; exact Nat.le_refl _)]
      unfold digM
      rw [if_pos hb']
      rfl
  case g5 =>
    intro hb H3 e3
    have hb' : ¬ 1000000000000000000 ≤ x := by simpa using hb
    refine' a_setv (K := K) ?g12 ?g13
    case g12 => walk_at "er"
    intro H4 e4
    have h4 := e4 o _ (e3 o _ h2)
    have E4 : Ex H H4 := ((e1.trans e2).trans e3).trans e4
    have hz4 := hzz.mono E4
    refine b_forR1 (K := K) (n := sizes.length) ?_ (by omega) (fun i σ' H' => ∃ y1 y2, σ' = [some (.int x), some (.ref pz), some (.ref o), some (.int x), none, some (.int (sdM (x % 2147483629) i)), y1, y2] ∧ Ex H H' ∧ H' o = some (.lst (vis ((sizes.zipIdx.take i).map fun p => twM (sdM (x % 2147483629) (p.2 + 1)) / 19 % p.1)))) (fun H5 e5 => ⟨none, none, rfl, E4.trans e5, e5 o _ h4⟩) ?_ ?_
    · walk_at "era"
    · rintro i σ' H' hi ⟨y1, y2, rfl, e, hO⟩
      have hn : sizes[i]? = some sizes[i] := List.getElem?_eq_getElem hi
      have hn2 := hpos sizes[i] (List.getElem_mem hi)
      have hg : sizes.getD i 0 = sizes[i] := by rw [List.getD_eq_getElem?_getD, hn]; rfl
      have hn3 : 0 < sizes.getD ((i : Nat) : Int).toNat 0 := by rw [Int.toNat_natCast, hg]; exact hn2.1
      have hzi := hzz.mono e
      generalize hsd : sdM (x % 2147483629) i = sd
      refine' a_setv (K := K) ?g14 ?g15
      case g14 => walk_at "er"
      intro H5 e5
      have hsd1 : sdM (x % 2147483629) (i + 1) = (sd * 48271 + 974711 * (i : Int) + 12345) % 2147483647 := by rw [← hsd]; rfl
      have hb1 : 0 ≤ (sd * 48271 + 974711 * (i : Int) + 12345) % 2147483647 := Int.emod_nonneg _ (by decide)
      have hb2 : (sd * 48271 + 974711 * (i : Int) + 12345) % 2147483647 < 2147483647 := Int.emod_lt_of_pos _ (by decide)
      generalize hsd2 : (sd * 48271 + 974711 * (i : Int) + 12345) % 2147483647 = sd2 at hsd1 hb1 hb2
      refine' a_setv (K := K) ?g16 ?g17
      case g16 => walk_at "er"
      intro H6 e6
      replace hzi := (hzi.mono e5).mono e6
      refine' a_app (K := K) (e6 o _ (e5 o _ hO)) (er_v rfl) ?g18 (by rw [List.length_map, List.length_map, List.length_take]; omega) ?g19
      case g18 => walk_at "er"
      intro H7 e7
      refine ⟨some (.int i), some (.int (twM sd2)), ?_, Ex.mut (((e.trans e5).trans e6).trans e7) ho, ?_⟩
      · rw [hsd1]
        rfl
      · rw [upd_same, map_take_next (zipIdx_at hn), vis_app, hsd1, Int.toNat_natCast, hg]
        rfl
    · rintro σ' H' ⟨y1, y2, rfl, e, hO⟩
      refine a_rete (K := K) (er_var (K := K) (d := .n (vis (digM x sizes))) rfl ⟨o, rfl, ?_⟩) rfl e hk
      rw [hO, List.take_of_length_le (by rw [List.length_zipIdx]; exact Nat.le_refl _)]
      unfold digM
      rw [if_neg hb']
      rfl
def pressM (a b : List Nat) : List Nat := (a.zip b).map fun p => if p.2 = 45 then p.1 else p.2
theorem pressM_len {a b : List Nat} (h : a.length = b.length) : (pressM a b).length = a.length := by
  unfold pressM
  rw [List.length_map, List.length_zip]
  omega
abbrev s__law_agree : Stmt := topS 49
theorem sc__law_agree : FnScope ["one", "two", "k"] ["one", "two"] (defScope s__law_agree) := ⟨rfl, rfl, rfl, by decide +kernel, rfl, by decide +kernel, by decide +kernel⟩

theorem get_getD {l : List Nat} {k : Nat} (h : k < l.length) : l[k]? = some (l.getD k 0) := by
  rw [List.getD_eq_getElem?_getD, List.getElem?_eq_getElem h]
  rfl
abbrev sp__law_agree (K : PySem.W.Frag) : Sp := spR K (fun a : List Nat × List Nat => a.1.length = a.2.length ∧ a.1.length ≤ 1000) (fun a => [.s (S a.1), .s (S a.2)]) fun a => .b (agreeM a.1 a.2)
theorem has__law_agree (T : Txt K mg) (h : At K mg "_law_agree" s__law_agree ["one", "two"]) : Has P w K mg base 1 "_law_agree" ["one", "two"] (sp__law_agree K) := by
  refine h.hasR sc__law_agree (fun _ => rfl) fun f cdv A outer s H a vs Q E hr hp hv hk => ?_
  obtain ⟨low, high⟩ := a
  obtain ⟨h1, h2⟩ := hp
  replace h1 : low.length = high.length := h1
  replace h2 : low.length ≤ 1000 := h2
  rcases hv with _ | ⟨rfl, _ | ⟨rfl, _ | _⟩⟩
  have sc := sc__law_agree
  refine ⟨_, (pss_cons (ps_for PassesOwn.never rfl (pi_range1 (by rfl) T.b_range (pa_cons (pe_callB cr_lenStr (by rfl) T.b_len (by decide +kernel) (pa_cons (pv 0) pa_nil)) pa_nil)) (pg_name (i := 2) sc.nd rfl (Or.inl rfl)) (pss_one (ps_if (PW.pt (pw_and (pt_cmpR op_ne (pe_ix ix_str (pv 0) (pv 2) (fun _ _ => rfl)) (pe_strS [45] (by rfl)) (nomark _)) (pw_and (pt_cmpR op_ne (pe_ix ix_str (pv 1) (pv 2) (fun _ _ => rfl)) (pe_strS [45] (by rfl)) (nomark _)) (pw_and1 (pt_cmpR op_ne (pe_ix ix_str (pv 0) (pv 2) (fun _ _ => rfl)) (pe_ix ix_str (pv 1) (pv 2) (fun _ _ => rfl)) (nomark _)))))) (pss_one (ps_ret pe_bl)) pss_nil)))
    (pss_one (ps_ret pe_bl))), ?_⟩
  refine b_forR1 (K := K) (n := low.length) ?_ (by omega) (fun i σ' H' => ∃ y, σ' = [some (.str (S low)), some (.str (S high)), y] ∧ Ex H H' ∧ ((low.zip high).take i).all okP = true) (fun H5 e5 => ⟨none, rfl, e5, rfl⟩) ?_ ?_
  · walk_at "era"
  · rintro i σ' H' hi ⟨y, rfl, e, hM⟩
    refine' a_when1 (K := K) ?g1 ?g2 ?g3
    case g1 => walk_at "et"
    case g2 =>
      intro hb H3 e3
      refine' a_rete (K := K) er_c ?g4 (e.trans e3) hk
      have e0 : agreeM low high = false := all_not (zip_at (get_getD hi) (get_getD (by omega : i < high.length))) (by simp at hb; simp [okP]; omega)
      show Dd.b false = Dd.b (agreeM low high)
      rw [e0]
    case g3 =>
      intro hb H3 e3
      refine ⟨_, rfl, e.trans e3, ?_⟩
      rw [all_next (zip_at (get_getD hi) (get_getD (by omega : i < high.length))), hM]
      simp at hb
      simp [okP]
      omega
  · rintro σ' H' ⟨y, rfl, e, hM⟩
    refine' a_rete (K := K) er_c ?g5 e hk
    have e1 : low.length = (low.zip high).length := by rw [List.length_zip]; omega
    rw [e1, all_end] at hM
    show Dd.b true = Dd.b (agreeM low high)
    rw [show agreeM low high = true from hM]

abbrev s__law_press : Stmt := topS 48
theorem sc__law_press : FnScope ["one", "two", "k"] ["one", "two"] (defScope s__law_press) := ⟨rfl, rfl, rfl, by decide +kernel, rfl, by decide +kernel, by decide +kernel⟩

theorem zip_range {α : Type} {low high : List Nat} (h : low.length = high.length) (f : Nat × Nat → α) : (low.zip high).map f = (List.range low.length).map fun k => f (low.getD k 0, high.getD k 0) := by
  refine List.ext_getElem (by simp; omega) fun i h1 h2 => ?_
  simp at h1 h2 ⊢
  congr 1
  rw [List.getElem?_eq_getElem (by omega), List.getElem?_eq_getElem (by omega)]
  rfl
abbrev sp__law_press (K : PySem.W.Frag) : Sp := spR K (fun a : List Nat × List Nat => a.1.length = a.2.length ∧ a.1.length ≤ 1000) (fun a => [.s (S a.1), .s (S a.2)]) fun a => .s (S (pressM a.1 a.2))
theorem has__law_press (T : Txt K mg) (h : At K mg "_law_press" s__law_press ["one", "two"]) : Has P w K mg base 1 "_law_press" ["one", "two"] (sp__law_press K) := by
  refine h.hasR sc__law_press (fun _ => rfl) fun f cdv A outer s H a vs Q E hr hp hv hk => ?_
  obtain ⟨low, high⟩ := a
  obtain ⟨h1, h2⟩ := hp
  replace h1 : low.length = high.length := h1
  replace h2 : low.length ≤ 1000 := h2
  rcases hv with _ | ⟨rfl, _ | ⟨rfl, _ | _⟩⟩
  have sc := sc__law_press
  refine ⟨_, (pss_one (ps_ret (pe_bm_k (K := K) PySem.F.plainAttrs_str PySem.F.slot_str_join PySem.F.type_str_join (mt_join_k (K := K)) (pe_strS [] (by rfl)) (pa_cons (pe_lc (own := [("k", 2)]) (g := gName 2) (by rfl) sc.nd (pi_range1 (by rfl) T.b_range (pa_cons (pe_callB cr_lenStr (by rfl) T.b_len (by decide +kernel) (pa_cons (pv 0) pa_nil)) pa_nil)) (blkOk_by (N := ["one", "two", "k"]) (sc := defScope s__law_press) (own := [("k", 2)]) (by decide +kernel)) (fun _ _ _ _ _ => (pg_name (i := 2) sc.nd rfl (Or.inl rfl))) (fun _ _ _ _ _ => pts_nil) (fun _ _ _ _ _ => (pe_ix (ix_list_k (K := K)) (pe_lst (pa_cons (pe_ix ix_str (pv 1) (pv 2) (fun _ _ => rfl)) (pa_cons (pe_ix ix_str (pv 0) (pv 2) (fun _ _ => rfl)) pa_nil))) (pe_callTy cr_int (by rfl) T.b_int (by decide +kernel) (pa_cons (pe_cmpR op_eq (pe_ix ix_str (pv 1) (pv 2) (fun _ _ => rfl)) (pe_strS [45] (by rfl)) (nomark _)) pa_nil)) (fun _ _ => rfl)))) pa_nil)))), ?_⟩
  refine' a_rete (K := K) ?g1 rfl (Ex.refl H) hk
  refine er_bm (K := K) (d0 := .s (S [])) (ds := [.n ((pressM low high).map fun c => V.str (S [c]))]) er_c (era_cons (Er.to (er_lcR' (K := K) (n := low.length) (vs := [2]) (fun k => V.str (S [if high.getD k 0 = 45 then low.getD k 0 else high.getD k 0])) ?g2 (by omega) (fun _ => rfl) ?g3) ?g4) era_nil) (rm_joinC ?g5)
  case g2 => walk_at "era"
  case g3 =>
    intro i H1 e hi
    refine' Er.to (K := K) (er_pickC (c := high.getD i 0) (e := low.getD i 0) ?g6 ?g7 ?g8) ?g9
    case g6 => exact er_op (d1 := .s (S high)) (er_v rfl) (er_v rfl) (ro_ixC (by omega) (by omega) (by omega))
    case g7 => exact er_op (d1 := .s (S low)) (er_v rfl) (er_v rfl) (ro_ixC (by omega) (by omega) (by omega))
    case g8 => walk_at "er"
    rw [Int.toNat_natCast]
    by_cases hc : high.getD i 0 = 45
    · rw [if_pos hc, hc]; rfl
    · rw [if_neg hc, decide_eq_false (by simpa using hc)]; rfl
  case g4 => rw [pressM, zip_range h1, List.map_map]; rfl
  case g5 =>
    rw [pressM_len h1]
    omega

abbrev s__law_free : Stmt := topS 50
theorem sc__law_free : FnScope ["one", "two", "k"] ["one", "two"] (defScope s__law_free) := ⟨rfl, rfl, rfl, by decide +kernel, rfl, by decide +kernel, by decide +kernel⟩

def freeM (a b : List Nat) : List Nat := (a.zip b).map fun p => if p.2 = 45 then p.1 else 45
theorem freeM_len {a b : List Nat} (h : a.length = b.length) : (freeM a b).length = a.length := by
  unfold freeM
  rw [List.length_map, List.length_zip]
  omega
abbrev sp__law_free (K : PySem.W.Frag) : Sp := spR K (fun a : List Nat × List Nat => a.1.length = a.2.length ∧ a.1.length ≤ 1000) (fun a => [.s (S a.1), .s (S a.2)]) fun a => .s (S (freeM a.1 a.2))
theorem has__law_free (T : Txt K mg) (h : At K mg "_law_free" s__law_free ["one", "two"]) : Has P w K mg base 1 "_law_free" ["one", "two"] (sp__law_free K) := by
  refine h.hasR sc__law_free (fun _ => rfl) fun f cdv A outer s H a vs Q E hr hp hv hk => ?_
  obtain ⟨low, high⟩ := a
  obtain ⟨h1, h2⟩ := hp
  replace h1 : low.length = high.length := h1
  replace h2 : low.length ≤ 1000 := h2
  rcases hv with _ | ⟨rfl, _ | ⟨rfl, _ | _⟩⟩
  have sc := sc__law_free
  refine ⟨_, (pss_one (ps_ret (pe_bm_k (K := K) PySem.F.plainAttrs_str PySem.F.slot_str_join PySem.F.type_str_join (mt_join_k (K := K)) (pe_strS [] (by rfl)) (pa_cons (pe_lc (own := [("k", 2)]) (g := gName 2) (by rfl) sc.nd (pi_range1 (by rfl) T.b_range (pa_cons (pe_callB cr_lenStr (by rfl) T.b_len (by decide +kernel) (pa_cons (pv 0) pa_nil)) pa_nil)) (blkOk_by (N := ["one", "two", "k"]) (sc := defScope s__law_free) (own := [("k", 2)]) (by decide +kernel)) (fun _ _ _ _ _ => (pg_name (i := 2) sc.nd rfl (Or.inl rfl))) (fun _ _ _ _ _ => pts_nil) (fun _ _ _ _ _ => (pe_ix (ix_list_k (K := K)) (pe_lst (pa_cons (pe_strS [45] (by rfl)) (pa_cons (pe_ix ix_str (pv 0) (pv 2) (fun _ _ => rfl)) pa_nil))) (pe_callTy cr_int (by rfl) T.b_int (by decide +kernel) (pa_cons (pe_cmpR op_eq (pe_ix ix_str (pv 1) (pv 2) (fun _ _ => rfl)) (pe_strS [45] (by rfl)) (nomark _)) pa_nil)) (fun _ _ => rfl)))) pa_nil)))), ?_⟩
  refine' a_rete (K := K) ?g1 rfl (Ex.refl H) hk
  refine er_bm (K := K) (d0 := .s (S [])) (ds := [.n ((freeM low high).map fun c => V.str (S [c]))]) er_c (era_cons (Er.to (er_lcR' (K := K) (n := low.length) (vs := [2]) (fun k => V.str (S [if high.getD k 0 = 45 then low.getD k 0 else 45])) ?g2 (by omega) (fun _ => rfl) ?g3) ?g4) era_nil) (rm_joinC ?g5)
  case g2 => walk_at "era"
  case g3 =>
    intro i H1 e hi
    refine' Er.to (K := K) (er_pickC (c := 45) (e := low.getD i 0) ?g6 ?g7 ?g8) ?g9
    case g6 => exact er_c
    case g7 => exact er_op (d1 := .s (S low)) (er_v rfl) (er_v rfl) (ro_ixC (by omega) (by omega) (by omega))
    case g8 => walk_at "er"
    rw [Int.toNat_natCast]
    by_cases hc : high.getD i 0 = 45
    · rw [if_pos hc, hc]; rfl
    · rw [if_neg hc, decide_eq_false (by simpa using hc)]; rfl
  case g4 => rw [freeM, zip_range h1, List.map_map]; rfl
  case g5 =>
    rw [freeM_len h1]
    omega

end
end Mi

set_option maxHeartbeats 4000000
namespace Mi
open PySem PySem.Spec PyProof.Rows L2 Evl
local macro_rules | `(tactic| walk_at "side") => `(tactic| (first | assumption | omega | exact rfl | decide | (simp only [List.length_cons, List.length_nil, List.length_map, List.length_append, List.length_replicate] <;> omega)))
local macro_rules | `(tactic| walk_at "ro") => `(tactic| (first
  | with_reducible exact ro_I0
  | with_reducible exact ro_1018
  | with_reducible exact ro_neC
  | with_reducible exact ro_eqC
  | with_reducible exact ro_neI
  | with_reducible exact ro_eqI
  | with_reducible exact ro_neB
  | with_reducible exact ro_eqB
  | ((with_reducible apply ro_mod); (walk_at "side"))
  | ((with_reducible apply ro_div) <;> (walk_at "side"))
  | ((with_reducible apply ro_divW) <;> (walk_at "side"))
  | with_reducible exact ro_1012
  | with_reducible exact ro_1015
  | ((with_reducible apply ro_mulL) <;> (walk_at "side"))
  | ((with_reducible apply ro_mulR) <;> (walk_at "side"))
  | ((with_reducible apply ro_addC); (walk_at "side"))
  | ((with_reducible apply ro_ixC) <;> (walk_at "side"))
  | ((with_reducible apply ro_ixI) <;> (walk_at "side"))
  | ((with_reducible apply ro_ixIN) <;> (walk_at "side"))
  | ((with_reducible apply ro_ixT2) <;> (walk_at "side"))
  | ((with_reducible apply ro_ixG) <;> (walk_at "side"))
  | ((with_reducible apply ro_eq); exact rfl)
  | ((with_reducible apply ro_ne); exact rfl)
  | with_reducible exact ro_isN
  | with_reducible exact ro_notN
  | with_reducible exact ro_eqL
  | with_reducible exact ro_neL
  | with_reducible exact ro_eqU
  | ((with_reducible apply ro_cat); (walk_at "side"))
  | with_reducible exact ro_inLi
  | with_reducible exact ro_inNi
  | with_reducible exact ro_inUi
  | ((with_reducible apply ro_inL) <;> (walk_at "side"))
  | ((with_reducible apply ro_inN) <;> (walk_at "side"))
  | ((with_reducible apply ro_inU) <;> (walk_at "side"))))
local macro_rules | `(tactic| walk_at "rc") => `(tactic| (first
  | with_reducible exact rc_int
  | with_reducible exact rc_intB
  | with_reducible exact rc_max2
  | ((with_reducible apply rc_lenC); (walk_at "side"))
  | with_reducible exact rc_lenI
  | with_reducible exact rc_lenT
  | with_reducible exact rc_lenIN
  | with_reducible exact rc_lenTN
  | with_reducible exact rc_lenL
  | with_reducible exact rc_lenN
  | with_reducible exact rc_lenU
  | with_reducible exact rc_listL
  | with_reducible exact rc_listU
  | with_reducible exact rc_tupL
  | with_reducible exact rc_tupN
  | ((with_reducible apply rc_isi_int); decide +kernel)
  | ((with_reducible apply rc_isi_str); decide +kernel)
  | ((with_reducible apply rc_isi_bl); decide +kernel)
  | ((with_reducible apply rc_isi_non); decide +kernel)
  | ((with_reducible apply rc_isi_u); decide +kernel)
  | ((with_reducible apply rc_isi_l); decide +kernel)))
local macro_rules | `(tactic| walk_at "er") => `(tactic| (first
  | ((with_reducible apply er_var); (exact rfl); assumption)
  | ((with_reducible apply er_v); exact rfl)
  | with_reducible exact er_c
  | ((with_reducible apply er_pick); (walk_at "er"); (walk_at "er"); (walk_at "er"))
  | ((with_reducible apply er_op); (walk_at "er"); (walk_at "er"); (walk_at "ro"))
  | ((with_reducible apply er_cb); (walk_at "era"); (walk_at "rc"))
  | ((with_reducible apply er_lst'); (walk_at "era"); (exact rfl); (walk_at "side"))
  | ((with_reducible apply er_tup'); (walk_at "era"); (exact rfl); (walk_at "side"))
  | ((with_reducible apply er_notV); (walk_at "er"))
  | ((with_reducible apply er_andV); (walk_at "er"); (intro _; (walk_at "er")))
  | ((with_reducible apply er_orV); (walk_at "er"); (intro _; (walk_at "er")))
  | ((with_reducible apply er_ite); (walk_at "et"); (intro _; (walk_at "er")); (intro _; (walk_at "er")))))
local macro_rules | `(tactic| walk_at "era") => `(tactic| (first
  | with_reducible exact era_nil
  | ((with_reducible apply era_cons); (walk_at "er"); (walk_at "era"))))
local macro_rules | `(tactic| walk_at "et") => `(tactic| (first
  | ((with_reducible apply et_an); (walk_at "et"); (intro _; (walk_at "et")))
  | ((with_reducible apply et_orr); (walk_at "et"); (intro _; (walk_at "et")))
  | ((with_reducible apply et_nt); (walk_at "et"))
  | ((with_reducible apply et1); (walk_at "er"))
  | ((with_reducible apply et2); (walk_at "er"))))

section
variable {P : Program} {w : World} {K : PySem.W.Frag} {mg : Str → Option Value} {base : Heap}

abbrev s__law_inks : Stmt := topS 44
theorem sc__law_inks : FnScope ["line", "alls", "first", "second", "third"] ["line"] (defScope s__law_inks) := ⟨rfl, rfl, rfl, by decide +kernel, rfl, by decide +kernel, by decide +kernel⟩

def ink2 (f n : Int) : Int := (f + 1 + n) % 27
def ink3 (f m n : Int) : Int := if (f + 1 + n) % 27 = ink2 f m then (f + 26) % 27 else (f + 1 + n) % 27
def inkF (sp : List Int) : Int := sp.getD 1 0 * (if sp.getD 0 0 < 2 then 1 else 0)
def inksM (sp : List Int) : List Nat := [alls.getD (inkF sp).toNat 0, alls.getD (ink2 (inkF sp) (sp.getD 2 0)).toNat 0, alls.getD (ink3 (inkF sp) (sp.getD 2 0) (sp.getD 3 0)).toNat 0]
def InkOk (sp : List Int) : Prop := 4 ≤ sp.length ∧ sp.length ≤ 1000 ∧ 0 ≤ sp.getD 1 0 ∧ sp.getD 1 0 < 27
theorem inkF_bd {sp : List Int} (h : InkOk sp) : 0 ≤ inkF sp ∧ inkF sp < 27 := by
  obtain ⟨_, _, h1, h2⟩ := h
  unfold inkF
  split <;> omega
abbrev sp__law_inks (K : PySem.W.Frag) : Sp := spR K (fun sp : List Int => InkOk sp) (fun sp => [.l (vis sp)]) fun sp => .s (S (inksM sp))
theorem has__law_inks (T : Txt K mg) (h : At K mg "_law_inks" s__law_inks ["line"]) : Has P w K mg base 1 "_law_inks" ["line"] (sp__law_inks K) := by
  refine h.hasR sc__law_inks (fun _ => rfl) fun f cdv A outer s H sp vs Q E hr hp hv hk => ?_
  have hF := inkF_bd hp
  obtain ⟨hl, hl2, h22⟩ := hp
  rcases hv with _ | ⟨⟨p, rfl, hS⟩, _ | _⟩
  have hs : Is K H (.l (vis sp)) (.ref p) := ⟨p, rfl, hS⟩
  have sc := sc__law_inks
  refine ⟨_, (pss_cons (ps_set (i := 1) sc.nd rfl (Or.inl rfl) (pe_strS [46, 97, 98, 99, 100, 101, 102, 103, 104, 105, 106, 107, 108, 109, 110, 111, 112, 113, 114, 115, 116, 117, 118, 119, 120, 121, 122] (by rfl)))
    (pss_cons (ps_set (i := 2) sc.nd rfl (Or.inl rfl) (pe_op op_mul (pe_callTy cr_int (by rfl) T.b_int (by decide +kernel) (pa_cons (pe_ix (ix_list_k (K := K)) (pv 0) pe_int (fun _ _ => rfl)) pa_nil)) (pe_callTy cr_int (by rfl) T.b_int (by decide +kernel) (pa_cons (pe_cmpR op_lt (pe_ix (ix_list_k (K := K)) (pv 0) pe_int (fun _ _ => rfl)) pe_int (nomark _)) pa_nil))))
    (pss_cons (ps_set (i := 3) sc.nd rfl (Or.inl rfl) (pe_op op_mod (pe_op op_add (pe_op op_add (pv 2) pe_int) (pe_callTy cr_int (by rfl) T.b_int (by decide +kernel) (pa_cons (pe_ix (ix_list_k (K := K)) (pv 0) pe_int (fun _ _ => rfl)) pa_nil))) pe_int))
    (pss_cons (ps_set (i := 4) sc.nd rfl (Or.inl rfl) (pe_op op_mod (pe_op op_add (pe_op op_add (pv 2) pe_int) (pe_callTy cr_int (by rfl) T.b_int (by decide +kernel) (pa_cons (pe_ix (ix_list_k (K := K)) (pv 0) pe_int (fun _ _ => rfl)) pa_nil))) pe_int))
    (pss_cons (ps_if (pt_cmpR op_eq (pv 4) (pv 3) (nomark _)) (pss_one (ps_set (i := 4) sc.nd rfl (Or.inl rfl) (pe_op op_mod (pe_op op_add (pv 2) pe_int) pe_int))) pss_nil)
    (pss_one (ps_ret (pe_op op_addS (pe_op op_addS (pe_ix ix_str (pv 1) (pv 2) (fun _ _ => rfl)) (pe_ix ix_str (pv 1) (pv 3) (fun _ _ => rfl))) (pe_ix ix_str (pv 1) (pv 4) (fun _ _ => rfl)))))))))), ?_⟩
  refine' a_setv (K := K) (x := .str (S alls)) er_c ?g1
  intro H1 e1
  replace hs := hs.mono e1
  have h22a : 0 ≤ sp.getD (1 : Int).toNat 0 := h22.1
  have h22b : sp.getD (1 : Int).toNat 0 < 27 := h22.2
  refine' a_setv (K := K) (x := .int (inkF sp)) (Er.to ?g6 ?g7) ?g8
  case g6 => walk_at "er"
  case g7 =>
    show Dd.i (sp.getD 1 0 * (if decide (sp.getD 0 0 < 2) = true then 1 else 0)) = Dd.i (inkF sp)
    unfold inkF
    by_cases h : sp.getD 0 0 < 2
    · rw [decide_eq_true h, if_pos rfl, if_pos h]
    · rw [decide_eq_false h, if_neg Bool.false_ne_true, if_neg h]
  intro H3 e3
  replace hs := hs.mono e3
  refine' a_setv (K := K) ?g9 ?g10
  case g9 => walk_at "er"
  intro H4 e4
  replace hs := hs.mono e4
  refine' a_setv (K := K) ?g11 ?g12
  case g11 => walk_at "er"
  intro H5 e5
  replace hs := hs.mono e5
  refine' a_ifAsg (K := K) (x := .int (ink3 (inkF sp) (sp.getD 2 0) (sp.getD 3 0))) ?g13 ?g14 ?g15 ?g16
  case g13 => walk_at "et"
  case g14 =>
    intro hb
    have hb' : (inkF sp + 1 + sp.getD 3 0) % 27 = ink2 (inkF sp) (sp.getD 2 0) := of_decide_eq_true hb
    refine' Er.to (K := K) ?g17 ?g18
    case g17 => walk_at "er"
    show Dd.i _ = Dd.i _
    unfold ink3
    rw [if_pos hb']
  case g15 =>
    intro hb
    have hb' : ¬ (inkF sp + 1 + sp.getD 3 0) % 27 = ink2 (inkF sp) (sp.getD 2 0) := of_decide_eq_false hb
    have e0 : ink3 (inkF sp) (sp.getD 2 0) (sp.getD 3 0) = (inkF sp + 1 + sp.getD 3 0) % 27 := by
      unfold ink3
      rw [if_neg hb']
    rw [e0]
    rfl
  intro H6 e6
  have b2a : 0 ≤ ink2 (inkF sp) (sp.getD 2 0) := Int.emod_nonneg _ (by decide)
  have b2b : ink2 (inkF sp) (sp.getD 2 0) < 27 := Int.emod_lt_of_pos _ (by decide)
  have b3a : 0 ≤ ink3 (inkF sp) (sp.getD 2 0) (sp.getD 3 0) := by
    unfold ink3
    split <;> exact Int.emod_nonneg _ (by decide)
  have b3b : ink3 (inkF sp) (sp.getD 2 0) (sp.getD 3 0) < 27 := by
    unfold ink3
    split <;> exact Int.emod_lt_of_pos _ (by decide)
  have la : alls.length = 27 := rfl
  refine a_rete (K := K) (er_op (K := K) (d1 := .s (S ([alls.getD (inkF sp).toNat 0] ++ [alls.getD (ink2 (inkF sp) (sp.getD 2 0)).toNat 0]))) (d2 := .s (S [alls.getD (ink3 (inkF sp) (sp.getD 2 0) (sp.getD 3 0)).toNat 0])) (er_op (K := K) (d1 := .s (S [alls.getD (inkF sp).toNat 0])) (d2 := .s (S [alls.getD (ink2 (inkF sp) (sp.getD 2 0)).toNat 0])) ?_ ?_ (ro_addC (by simp))) ?_ (ro_addC (by simp))) rfl ((((e1.trans e3).trans e4).trans e5).trans e6) hk
  · exact er_op (er_v rfl) (er_v rfl) (ro_ixC hF.1 (by rw [la]; exact hF.2) (by rw [la]; decide))
  · exact er_op (er_v rfl) (er_v rfl) (ro_ixC b2a (by rw [la]; exact b2b) (by rw [la]; decide))
  · exact er_op (er_v rfl) (er_v rfl) (ro_ixC b3a (by rw [la]; exact b3b) (by rw [la]; decide))

abbrev s__law_sheet : Stmt := topS 52
theorem sc__law_sheet : FnScope ["menu", "line", "size", "k"] ["menu", "line", "size"] (defScope s__law_sheet) := ⟨rfl, rfl, rfl, by decide +kernel, rfl, by decide +kernel, by decide +kernel⟩

def pickM (menu : List Nat) (m : Int) (line : List Int) (size : Nat) : List Nat := (List.range size).map fun k => menu.getD (line.getD k 0 % m).toNat 0
theorem pickM_len {menu : List Nat} {m : Int} {line : List Int} {size : Nat} : (pickM menu m line size).length = size := by simp [pickM]
/-- menu[int(line[k]) % m] -/
theorem er_menu {te tl tk : TE} {σ : L2.St} {H : Hp} {menu : List Nat} {line : List Int} {m : Nat} {k : Nat} (h1 : Er K te σ H (.s (S menu))) (h2 : Er K tl σ H (.l (vis line))) (h3 : Er K tk σ H (.i (k : Int))) (hm : 0 < m) (hl : m ≤ menu.length) (hz : menu.length ≤ 1000) (hk : k < line.length) :
    Er K (tOp rIxS te (tOp (rI (fun _ j => 0 < j) fun i j => .int (i % j)) (tCB rInt1 (tCons (tOp (rIxL K) tl tk) tNil)) (tC (.int (m : Int))))) σ H (.s (S [menu.getD (line.getD k 0 % (m : Int)).toNat 0])) := by
  have q0 : 0 ≤ line.getD k 0 % (m : Int) := Int.emod_nonneg _ (by omega)
  have q1 : line.getD k 0 % (m : Int) < (m : Int) := Int.emod_lt_of_pos _ (by omega)
  exact er_op (d2 := .i (line.getD k 0 % (m : Int))) h1 (er_op (er_cb (era_cons (Er.to (er_op h2 h3 (ro_ixI (by omega) (by omega))) (by rw [Int.toNat_natCast])) era_nil) rc_int) er_c (ro_mod (by omega))) (ro_ixC q0 (by omega) (by omega))
abbrev sp__law_sheet (K : PySem.W.Frag) : Sp := spR K (fun a : List Nat × List Int × Nat => 4 ≤ a.1.length ∧ a.1.length ≤ 1000 ∧ a.2.2 ≤ a.2.1.length ∧ a.2.2 ≤ 1000) (fun a => [.s (S a.1), .l (vis a.2.1), .i (a.2.2 : Int)]) fun a => .s (S (pickM a.1 4 a.2.1 a.2.2))
theorem has__law_sheet (T : Txt K mg) (h : At K mg "_law_sheet" s__law_sheet ["menu", "line", "size"]) : Has P w K mg base 1 "_law_sheet" ["menu", "line", "size"] (sp__law_sheet K) := by
  refine h.hasR sc__law_sheet (fun _ => rfl) fun f cdv A outer s H a vs Q E hr hp hv hk => ?_
  obtain ⟨menu, line, size⟩ := a
  obtain ⟨h1, h2, h3, h4⟩ := hp
  replace h1 : 4 ≤ menu.length := h1
  replace h2 : menu.length ≤ 1000 := h2
  replace h3 : size ≤ line.length := h3
  replace h4 : size ≤ 1000 := h4
  rcases hv with _ | ⟨rfl, _ | ⟨⟨p, rfl, hS⟩, _ | ⟨rfl, _ | _⟩⟩⟩
  have hs : Is K H (.l (vis line)) (.ref p) := ⟨p, rfl, hS⟩
  have sc := sc__law_sheet
  refine ⟨_, (pss_one (ps_ret (pe_bm_k (K := K) PySem.F.plainAttrs_str PySem.F.slot_str_join PySem.F.type_str_join (mt_join_k (K := K)) (pe_strS [] (by rfl)) (pa_cons (pe_lc (own := [("k", 3)]) (g := gName 3) (by rfl) sc.nd (pi_range1 (by rfl) T.b_range (pa_cons (pv 2) pa_nil)) (blkOk_by (N := ["menu", "line", "size", "k"]) (sc := defScope s__law_sheet) (own := [("k", 3)]) (by decide +kernel)) (fun _ _ _ _ _ => (pg_name (i := 3) sc.nd rfl (Or.inl rfl))) (fun _ _ _ _ _ => pts_nil) (fun _ _ _ _ _ => (pe_ix ix_str (pv 0) (pe_op op_mod (pe_callTy cr_int (by rfl) T.b_int (by decide +kernel) (pa_cons (pe_ix (ix_list_k (K := K)) (pv 1) (pv 3) (fun _ _ => rfl)) pa_nil)) pe_int) (fun _ _ => rfl)))) pa_nil)))), ?_⟩
  refine' a_rete (K := K) ?g1 rfl (Ex.refl H) hk
  refine er_bm (K := K) (d0 := .s (S [])) (ds := [.n ((pickM menu 4 line size).map fun c => V.str (S [c]))]) er_c (era_cons (Er.to (er_lcR' (K := K) (n := size) (vs := [3]) (fun k => V.str (S [menu.getD (line.getD k 0 % 4).toNat 0])) ?g2 (by omega) (fun _ => rfl) ?g3) ?g4) era_nil) (rm_joinC ?g5)
  case g2 => walk_at "era"
  case g3 =>
    intro i H1 e hi
    exact er_menu (m := 4) (er_v rfl) (er_var rfl (hs.mono e)) (er_v rfl) (by decide) h1 h2 (by omega)
  case g4 => rw [pickM, List.map_map]; rfl
  case g5 =>
    rw [pickM_len]
    omega

abbrev s__law_dashed : Stmt := topS 53
theorem sc__law_dashed : FnScope ["layer", "line", "much", "low", "k"] ["layer", "line", "much"] (defScope s__law_dashed) := ⟨rfl, rfl, rfl, by decide +kernel, rfl, by decide +kernel, by decide +kernel⟩

def dashM (layer : List Nat) (line : List Int) (low : Int) : List Nat := (List.range layer.length).map fun k => if low ≤ line.getD k 0 % 6 then layer.getD k 0 else 45
theorem dashM_len {layer : List Nat} {line : List Int} {low : Int} : (dashM layer line low).length = layer.length := by simp [dashM]
abbrev sp__law_dashed (K : PySem.W.Frag) : Sp := spR K (fun a : List Nat × List Int × Bool => a.1.length ≤ a.2.1.length ∧ a.1.length ≤ 1000) (fun a => [.s (S a.1), .l (vis a.2.1), .b a.2.2]) fun a => .s (S (dashM a.1 a.2.1 (if a.2.2 = true then 3 else 1)))
theorem has__law_dashed (T : Txt K mg) (h : At K mg "_law_dashed" s__law_dashed ["layer", "line", "much"]) : Has P w K mg base 1 "_law_dashed" ["layer", "line", "much"] (sp__law_dashed K) := by
  refine h.hasR sc__law_dashed (fun _ => rfl) fun f cdv A outer s H a vs Q E hr hp hv hk => ?_
  obtain ⟨layer, line, much⟩ := a
  obtain ⟨h1, h2⟩ := hp
  replace h1 : layer.length ≤ line.length := h1
  replace h2 : layer.length ≤ 1000 := h2
  rcases hv with _ | ⟨rfl, _ | ⟨⟨p, rfl, hS⟩, _ | ⟨rfl, _ | _⟩⟩⟩
  have hs : Is K H (.l (vis line)) (.ref p) := ⟨p, rfl, hS⟩
  have sc := sc__law_dashed
  refine ⟨_, (pss_cons (ps_set (i := 3) sc.nd rfl (Or.inr rfl) (pe_ix (ix_list_k (K := K)) (pe_lst (pa_cons pe_int (pa_cons pe_int pa_nil))) (pe_callTy cr_int (by rfl) T.b_int (by decide +kernel) (pa_cons (pv 2) pa_nil)) (fun _ _ => rfl)))
    (pss_one (ps_ret (pe_bm_k (K := K) PySem.F.plainAttrs_str PySem.F.slot_str_join PySem.F.type_str_join (mt_join_k (K := K)) (pe_strS [] (by rfl)) (pa_cons (pe_lc (own := [("k", 4)]) (g := gName 4) (by rfl) sc.nd (pi_range1 (by rfl) T.b_range (pa_cons (pe_callB cr_lenStr (by rfl) T.b_len (by decide +kernel) (pa_cons (pv 0) pa_nil)) pa_nil)) (blkOk_by (N := ["layer", "line", "much", "low", "k"]) (sc := defScope s__law_dashed) (own := [("k", 4)]) (by decide +kernel)) (fun _ _ _ _ _ => (pg_name (i := 4) sc.nd rfl (Or.inl rfl))) (fun _ _ _ _ _ => pts_nil) (fun _ _ _ _ _ => (pe_ix (ix_list_k (K := K)) (pe_lst (pa_cons (pe_strS [45] (by rfl)) (pa_cons (pe_ix ix_str (pv 0) (pv 4) (fun _ _ => rfl)) pa_nil))) (pe_callTy cr_int (by rfl) T.b_int (by decide +kernel) (pa_cons (pe_cmpR op_ge (pe_op op_mod (pe_callTy cr_int (by rfl) T.b_int (by decide +kernel) (pa_cons (pe_ix (ix_list_k (K := K)) (pv 1) (pv 4) (fun _ _ => rfl)) pa_nil)) pe_int) (pv 3) (nomark _)) pa_nil)) (fun _ _ => rfl)))) pa_nil))))), ?_⟩
  refine' a_setv (K := K) (x := .int (if much = true then 3 else 1)) (Er.to (er_pick (x := .int 1) (y := .int 3) er_c er_c (er_v rfl)) ?g0) ?g1
  case g0 => cases much <;> rfl
  intro H1 e1
  replace hs := hs.mono e1
  generalize (if much = true then (3 : Int) else 1) = low at hk
  refine' a_rete (K := K) ?g2 rfl e1 hk
  refine er_bm (K := K) (d0 := .s (S [])) (ds := [.n ((dashM layer line low).map fun c => V.str (S [c]))]) er_c (era_cons (Er.to (er_lcR' (K := K) (n := layer.length) (vs := [4]) (fun k => V.str (S [if low ≤ line.getD k 0 % 6 then layer.getD k 0 else 45])) ?g3 (by omega) (fun _ => rfl) ?g4) ?g5) era_nil) (rm_joinC ?g6)
  case g3 => walk_at "era"
  case g4 =>
    intro i H2 e hi
    replace hs := hs.mono e
    refine' Er.to (K := K) (er_pickC (c := 45) (e := layer.getD i 0) er_c ?g7 ?g8) ?g9
    case g7 => exact Er.to (er_op (d1 := .s (S layer)) (er_v rfl) (er_v rfl) (ro_ixC (by omega) (by omega) (by omega))) (by rw [Int.toNat_natCast])
    case g8 => walk_at "er"
    rw [Int.toNat_natCast]
    by_cases hc : low ≤ line.getD i 0 % 6
    · rw [if_pos hc, decide_eq_true hc]; rfl
    · rw [if_neg hc, decide_eq_false hc]; rfl
  case g5 => rw [dashM, List.map_map]; rfl
  case g6 =>
    rw [dashM_len]
    omega
end
end Mi

set_option maxHeartbeats 4000000
namespace Mi
open PySem PySem.Spec PyProof.Rows L2 Evl
local macro_rules | `(tactic| walk_at "side") => `(tactic| (first | assumption | omega | exact rfl | decide | (simp only [List.length_cons, List.length_nil, List.length_map, List.length_append, List.length_replicate] <;> omega)))
local macro_rules | `(tactic| walk_at "ro") => `(tactic| (first
  | with_reducible exact ro_I0
  | with_reducible exact ro_1018
  | with_reducible exact ro_neC
  | with_reducible exact ro_eqC
  | with_reducible exact ro_neI
  | with_reducible exact ro_eqI
  | with_reducible exact ro_neB
  | with_reducible exact ro_eqB
  | ((with_reducible apply ro_mod); (walk_at "side"))
  | ((with_reducible apply ro_div) <;> (walk_at "side"))
  | ((with_reducible apply ro_divW) <;> (walk_at "side"))
  | with_reducible exact ro_1012
  | with_reducible exact ro_1015
  | ((with_reducible apply ro_mulL) <;> (walk_at "side"))
  | ((with_reducible apply ro_mulR) <;> (walk_at "side"))
  | ((with_reducible apply ro_addC); (walk_at "side"))
  | ((with_reducible apply ro_ixC) <;> (walk_at "side"))
  | ((with_reducible apply ro_ixI) <;> (walk_at "side"))
  | ((with_reducible apply ro_ixIN) <;> (walk_at "side"))
  | ((with_reducible apply ro_ixT2) <;> (walk_at "side"))
  | ((with_reducible apply ro_ixG) <;> (walk_at "side"))
  | ((with_reducible apply ro_eq); exact rfl)
  | ((with_reducible apply ro_ne); exact rfl)
  | with_reducible exact ro_isN
  | with_reducible exact ro_notN
  | with_reducible exact ro_eqL
  | with_reducible exact ro_neL
  | with_reducible exact ro_eqU
  | ((with_reducible apply ro_cat); (walk_at "side"))
  | with_reducible exact ro_inLi
  | with_reducible exact ro_inNi
  | with_reducible exact ro_inUi
  | ((with_reducible apply ro_inL) <;> (walk_at "side"))
  | ((with_reducible apply ro_inN) <;> (walk_at "side"))
  | ((with_reducible apply ro_inU) <;> (walk_at "side"))))
local macro_rules | `(tactic| walk_at "rc") => `(tactic| (first
  | with_reducible exact rc_int
  | with_reducible exact rc_intB
  | with_reducible exact rc_max2
  | ((with_reducible apply rc_lenC); (walk_at "side"))
  | with_reducible exact rc_lenI
  | with_reducible exact rc_lenT
  | with_reducible exact rc_lenIN
  | with_reducible exact rc_lenTN
  | with_reducible exact rc_lenL
  | with_reducible exact rc_lenN
  | with_reducible exact rc_lenU
  | with_reducible exact rc_listL
  | with_reducible exact rc_listU
  | with_reducible exact rc_tupL
  | with_reducible exact rc_tupN
  | ((with_reducible apply rc_isi_int); decide +kernel)
  | ((with_reducible apply rc_isi_str); decide +kernel)
  | ((with_reducible apply rc_isi_bl); decide +kernel)
  | ((with_reducible apply rc_isi_non); decide +kernel)
  | ((with_reducible apply rc_isi_u); decide +kernel)
  | ((with_reducible apply rc_isi_l); decide +kernel)))
local macro_rules | `(tactic| walk_at "er") => `(tactic| (first
  | ((with_reducible apply er_var); (exact rfl); assumption)
  | ((with_reducible apply er_v); exact rfl)
  | with_reducible exact er_c
  | ((with_reducible apply er_pick); (walk_at "er"); (walk_at "er"); (walk_at "er"))
  | ((with_reducible apply er_op); (walk_at "er"); (walk_at "er"); (walk_at "ro"))
  | ((with_reducible apply er_cb); (walk_at "era"); (walk_at "rc"))
  | ((with_reducible apply er_lst'); (walk_at "era"); (exact rfl); (walk_at "side"))
  | ((with_reducible apply er_tup'); (walk_at "era"); (exact rfl); (walk_at "side"))
  | ((with_reducible apply er_notV); (walk_at "er"))
  | ((with_reducible apply er_andV); (walk_at "er"); (intro _; (walk_at "er")))
  | ((with_reducible apply er_orV); (walk_at "er"); (intro _; (walk_at "er")))
  | ((with_reducible apply er_ite); (walk_at "et"); (intro _; (walk_at "er")); (intro _; (walk_at "er")))))
local macro_rules | `(tactic| walk_at "era") => `(tactic| (first
  | with_reducible exact era_nil
  | ((with_reducible apply era_cons); (walk_at "er"); (walk_at "era"))))
local macro_rules | `(tactic| walk_at "et") => `(tactic| (first
  | ((with_reducible apply et_an); (walk_at "et"); (intro _; (walk_at "et")))
  | ((with_reducible apply et_orr); (walk_at "et"); (intro _; (walk_at "et")))
  | ((with_reducible apply et_nt); (walk_at "et"))
  | ((with_reducible apply et1); (walk_at "er"))
  | ((with_reducible apply et2); (walk_at "er"))))

section
variable {P : Program} {w : World} {K : PySem.W.Frag} {mg : Str → Option Value} {base : Heap}

abbrev s__law_text : Stmt := topS 46
theorem sc__law_text : FnScope ["menu", "line", "size", "text", "at", "k"] ["menu", "line", "size"] (defScope s__law_text) := ⟨rfl, rfl, rfl, by decide +kernel, rfl, by decide +kernel, by decide +kernel⟩

def fixM (menu : List Nat) (line : List Int) (size : Nat) : List Nat := (pickM menu 8 line size).take (line.sum % (size : Int)).toNat ++ [menu.getD 7 0] ++ (pickM menu 8 line size).drop ((line.sum % (size : Int)).toNat + 1)
def txtM (menu : List Nat) (line : List Int) (size : Nat) : List Nat := if pickM menu 8 line size = List.replicate size 45 then fixM menu line size else pickM menu 8 line size
theorem fixM_len {menu : List Nat} {line : List Int} {size : Nat} (h : 1 ≤ size) : (fixM menu line size).length = size := by
  have q0 : 0 ≤ line.sum % (size : Int) := Int.emod_nonneg _ (by omega)
  have q1 : line.sum % (size : Int) < (size : Int) := Int.emod_lt_of_pos _ (by omega)
  unfold fixM
  rw [List.length_append, List.length_append, List.length_take, List.length_drop, pickM_len]
  simp
  omega
theorem txtM_len {menu : List Nat} {line : List Int} {size : Nat} (h : 1 ≤ size) : (txtM menu line size).length = size := by
  unfold txtM
  split
  · exact fixM_len h
  · exact pickM_len
abbrev sp__law_text (K : PySem.W.Frag) : Sp := spR K (fun a : List Nat × List Int × Nat => 8 ≤ a.1.length ∧ a.1.length ≤ 1000 ∧ a.2.2 ≤ a.2.1.length ∧ 1 ≤ a.2.2 ∧ a.2.2 ≤ 1000) (fun a => [.s (S a.1), .l (vis a.2.1), .i (a.2.2 : Int)]) fun a => .s (S (txtM a.1 a.2.1 a.2.2))
theorem has__law_text (T : Txt K mg) (h : At K mg "_law_text" s__law_text ["menu", "line", "size"]) : Has P w K mg base 1 "_law_text" ["menu", "line", "size"] (sp__law_text K) := by
  refine h.hasR sc__law_text (fun _ => rfl) fun f cdv A outer s H a vs Q E hr hp hv hk => ?_
  obtain ⟨menu, line, size⟩ := a
  obtain ⟨h1, h2, h3, h4, h5⟩ := hp
  replace h1 : 8 ≤ menu.length := h1
  replace h2 : menu.length ≤ 1000 := h2
  replace h3 : size ≤ line.length := h3
  replace h4 : 1 ≤ size := h4
  replace h5 : size ≤ 1000 := h5
  rcases hv with _ | ⟨rfl, _ | ⟨⟨p, rfl, hS⟩, _ | ⟨rfl, _ | _⟩⟩⟩
  have hs : Is K H (.l (vis line)) (.ref p) := ⟨p, rfl, hS⟩
  have sc := sc__law_text
  have lp : (pickM menu 8 line size).length = size := pickM_len
  have q0 : 0 ≤ line.sum % (size : Int) := Int.emod_nonneg _ (by omega)
  have q1 : line.sum % (size : Int) < (size : Int) := Int.emod_lt_of_pos _ (by omega)
  have q2 : (((line.sum % (size : Int)).toNat : Nat) : Int) = line.sum % (size : Int) := Int.toNat_of_nonneg q0
  refine ⟨_, (pss_cons (ps_set (i := 3) sc.nd rfl (Or.inl rfl) (pe_bm_k (K := K) PySem.F.plainAttrs_str PySem.F.slot_str_join PySem.F.type_str_join (mt_join_k (K := K)) (pe_strS [] (by rfl)) (pa_cons (pe_lc (own := [("k", 5)]) (g := gName 5) (by rfl) sc.nd (pi_range1 (by rfl) T.b_range (pa_cons (pv 2) pa_nil)) (blkOk_by (N := ["menu", "line", "size", "text", "at", "k"]) (sc := defScope s__law_text) (own := [("k", 5)]) (by decide +kernel)) (fun _ _ _ _ _ => (pg_name (i := 5) sc.nd rfl (Or.inl rfl))) (fun _ _ _ _ _ => pts_nil) (fun _ _ _ _ _ => (pe_ix ix_str (pv 0) (pe_op op_mod (pe_callTy cr_int (by rfl) T.b_int (by decide +kernel) (pa_cons (pe_ix (ix_list_k (K := K)) (pv 1) (pv 5) (fun _ _ => rfl)) pa_nil)) pe_int) (fun _ _ => rfl)))) pa_nil)))
    (pss_cons (ps_if (pt_cmpR op_eq (pv 3) (pe_op op_mulS (pe_strS [45] (by rfl)) (pv 2)) (nomark _)) (pss_cons (ps_set (i := 4) sc.nd rfl (Or.inl rfl) (pe_op op_mod (pe_callTy cr_int (by rfl) T.b_int (by decide +kernel) (pa_cons (pe_callB (cr_sum_k (K := K)) (by rfl) T.b_sum (by decide +kernel) (pa_cons (pv 1) pa_nil)) pa_nil)) (pv 2)))
    (pss_one (ps_set (i := 3) sc.nd rfl (Or.inl rfl) (pe_op op_addS (pe_op op_addS (pe_slice sl_str (pv 3) po_none (po_some (pv 4))) (pe_ix ix_str (pv 0) pe_int (fun _ _ => rfl))) (pe_slice sl_str (pv 3) (po_some (pe_op op_add (pv 4) pe_int)) po_none))))) pss_nil)
    (pss_one (ps_ret (pv 3))))), ?_⟩
  refine' a_setv (K := K) (x := .str (S (pickM menu 8 line size))) ?g1 ?g0
  case g1 =>
    refine er_bm (K := K) (d0 := .s (S [])) (ds := [.n ((pickM menu 8 line size).map fun c => V.str (S [c]))]) er_c (era_cons (Er.to (er_lcR' (K := K) (n := size) (vs := [5]) (fun k => V.str (S [menu.getD (line.getD k 0 % 8).toNat 0])) ?g2 (by omega) (fun _ => rfl) ?g3) ?g4) era_nil) (rm_joinC ?g5)
    case g2 => walk_at "era"
    case g3 =>
      intro i H1 e hi
      exact er_menu (m := 8) (er_v rfl) (er_var rfl (hs.mono e)) (er_v rfl) (by decide) h1 h2 (by omega)
    case g4 => rw [pickM, List.map_map]; rfl
    case g5 =>
      rw [pickM_len]
      omega
  intro H1 e1
  refine' a_when (K := K) (b := decide (pickM menu 8 line size = List.replicate size 45)) (et1 (er_op (er_v rfl) (er_dash er_c (er_v rfl) h5) ro_eqC)) ?g6 ?g7
  case g6 =>
    intro hb H2 e2
    have hb' : pickM menu 8 line size = List.replicate size 45 := of_decide_eq_true hb
    replace hs := (hs.mono e1).mono e2
    refine' a_setv (K := K) (x := .int (((line.sum % (size : Int)).toNat : Nat) : Int)) (Er.to (er_op (er_cb (era_cons (er_cb (era_cons (er_var rfl hs) era_nil) rc_sumI) era_nil) rc_int) (er_v rfl) (ro_mod (by omega : (0 : Int) < (size : Int)))) (congrArg Dd.i q2.symm)) ?g8
    intro H3 e3
    refine' a_setv1 (K := K) (x := .str (S (fixM menu line size))) (er_op (K := K) (d1 := .s (S ((pickM menu 8 line size).take (line.sum % (size : Int)).toNat ++ [menu.getD 7 0]))) (d2 := .s (S ((pickM menu 8 line size).drop ((line.sum % (size : Int)).toNat + 1)))) (er_op (K := K) (d1 := .s (S ((pickM menu 8 line size).take (line.sum % (size : Int)).toNat))) (d2 := .s (S [menu.getD 7 0])) (er_slTo (er_v rfl) (by omega) (er_v rfl)) (er_sign (n := 7) (er_v rfl) er_c (by omega) (by omega)) (ro_addC (by simp; omega))) (er_slFrom (er_v rfl) (by omega) (er_op (er_v rfl) er_c ro_I0)) (ro_addC (by simp; omega))) ?g9
    intro H4 e4
    refine a_rete (K := K) (er_v rfl) ?_ (((e1.trans e2).trans e3).trans e4) hk
    show Dd.s (S (fixM menu line size)) = Dd.s (S (txtM menu line size))
    unfold txtM
    rw [if_pos hb']
  case g7 =>
    intro hb H2 e2
    have hb' : ¬ pickM menu 8 line size = List.replicate size 45 := of_decide_eq_false hb
    refine a_rete (K := K) (er_v rfl) ?_ (e1.trans e2) hk
    show Dd.s (S (pickM menu 8 line size)) = Dd.s (S (txtM menu line size))
    unfold txtM
    rw [if_neg hb']

abbrev s__law_numbers : Stmt := topS 51
theorem sc__law_numbers : FnScope ["many", "line", "count", "k"] ["many", "line"] (defScope s__law_numbers) := ⟨rfl, rfl, rfl, by decide +kernel, rfl, by decide +kernel, by decide +kernel⟩

def cntM (line : List Int) (many : Nat) : Nat := ([3, 4, 5, 2, 6, 1, 7, 0] : List Nat).getD (line.getD 0 0).toNat 0 * (if 0 < many then 1 else 0)
def numM (many : Nat) (line : List Int) : List Int := (List.range (cntM line many)).map fun k : Nat => (if line.getD 1 0 = 0 then line.getD 2 0 + (k : Int) else line.getD (2 + k) 0) % (many : Int)
theorem cntM_le {line : List Int} {many : Nat} (h0 : 0 ≤ line.getD 0 0) (h1 : line.getD 0 0 < 8) : cntM line many ≤ 7 ∧ (0 < cntM line many → 0 < many) := by
  have m : ∀ j : Nat, j < 8 → ([3, 4, 5, 2, 6, 1, 7, 0] : List Nat).getD j 0 ≤ 7 := by decide
  have q := m (line.getD 0 0).toNat (by omega)
  unfold cntM
  generalize ([3, 4, 5, 2, 6, 1, 7, 0] : List Nat).getD (line.getD 0 0).toNat 0 = n at q
  split <;> omega
abbrev sp__law_numbers (K : PySem.W.Frag) : Sp := spR K (fun a : Nat × List Int => a.1 ≤ 1000 ∧ 9 ≤ a.2.length ∧ 0 ≤ a.2.getD 0 0 ∧ a.2.getD 0 0 < 8) (fun a => [.i (a.1 : Int), .l (vis a.2)]) fun a => .n (vis (numM a.1 a.2))
theorem has__law_numbers (T : Txt K mg) (h : At K mg "_law_numbers" s__law_numbers ["many", "line"]) : Has P w K mg base 1 "_law_numbers" ["many", "line"] (sp__law_numbers K) := by
  refine h.hasR sc__law_numbers (fun _ => rfl) fun f cdv A outer s H a vs Q E hr hp hv hk => ?_
  obtain ⟨many, line⟩ := a
  obtain ⟨h1, h2, h3, h4⟩ := hp
  replace h1 : many ≤ 1000 := h1
  replace h2 : 9 ≤ line.length := h2
  replace h3 : 0 ≤ line.getD 0 0 := h3
  replace h4 : line.getD 0 0 < 8 := h4
  rcases hv with _ | ⟨rfl, _ | ⟨⟨p, rfl, hS⟩, _ | _⟩⟩
  have hs : Is K H (.l (vis line)) (.ref p) := ⟨p, rfl, hS⟩
  have sc := sc__law_numbers
  have hc := cntM_le (many := many) h3 h4
  have m8 : ∀ j : Nat, j < 8 → ([3, 4, 5, 2, 6, 1, 7, 0] : List Int).getD j 0 = ((([3, 4, 5, 2, 6, 1, 7, 0] : List Nat).getD j 0 : Nat) : Int) := by decide
  refine ⟨_, (pss_cons (ps_set (i := 2) sc.nd rfl (Or.inl rfl) (pe_op op_mul (pe_ix (ix_list_k (K := K)) (pe_lst (pa_cons pe_int (pa_cons pe_int (pa_cons pe_int (pa_cons pe_int (pa_cons pe_int (pa_cons pe_int (pa_cons pe_int (pa_cons pe_int pa_nil))))))))) (pe_ix (ix_list_k (K := K)) (pv 1) pe_int (fun _ _ => rfl)) (fun _ _ => rfl)) (pe_callTy cr_int (by rfl) T.b_int (by decide +kernel) (pa_cons (pe_cmpR op_gt (pv 0) pe_int (nomark _)) pa_nil))))
    (pss_cons (ps_if (pt_cmpR op_eq (pe_ix (ix_list_k (K := K)) (pv 1) pe_int (fun _ _ => rfl)) pe_int (nomark _)) (pss_one (ps_ret (pe_lc (own := [("k", 3)]) (g := gName 3) (by rfl) sc.nd (pi_range1 (by rfl) T.b_range (pa_cons (pv 2) pa_nil)) (blkOk_by (N := ["many", "line", "count", "k"]) (sc := defScope s__law_numbers) (own := [("k", 3)]) (by decide +kernel)) (fun _ _ _ _ _ => (pg_name (i := 3) sc.nd rfl (Or.inl rfl))) (fun _ _ _ _ _ => pts_nil) (fun _ _ _ _ _ => (pe_op op_mod (pe_callTy cr_int (by rfl) T.b_int (by decide +kernel) (pa_cons (pe_op op_add (pe_ix (ix_list_k (K := K)) (pv 1) pe_int (fun _ _ => rfl)) (pv 3)) pa_nil)) (pv 0)))))) pss_nil)
    (pss_one (ps_ret (pe_lc (own := [("k", 3)]) (g := gName 3) (by rfl) sc.nd (pi_range1 (by rfl) T.b_range (pa_cons (pv 2) pa_nil)) (blkOk_by (N := ["many", "line", "count", "k"]) (sc := defScope s__law_numbers) (own := [("k", 3)]) (by decide +kernel)) (fun _ _ _ _ _ => (pg_name (i := 3) sc.nd rfl (Or.inl rfl))) (fun _ _ _ _ _ => pts_nil) (fun _ _ _ _ _ => (pe_op op_mod (pe_callTy cr_int (by rfl) T.b_int (by decide +kernel) (pa_cons (pe_ix (ix_list_k (K := K)) (pv 1) (pe_op op_add pe_int (pv 3)) (fun _ _ => rfl)) pa_nil)) (pv 0)))))))), ?_⟩
  refine' a_setv (K := K) (x := .int (cntM line many : Int)) (Er.to (er_op (er_op (er_lst (vs := vis [3, 4, 5, 2, 6, 1, 7, 0]) ?g1 (by decide)) (er_num (n := 0) (er_var rfl hs) er_c (by omega)) (ro_ixIN h3 h4)) (er_cb (era_cons (er_op (er_v rfl) er_c ro_I0) era_nil) rc_intB) (ro_mulR (by split <;> decide) (by split <;> decide))) ?g2) ?g3
  case g1 => repeat (first | exact era_nil | refine era_cons er_c ?_)
  case g2 =>
    show Dd.i _ = Dd.i _
    rw [m8 _ (by omega)]
    unfold cntM
    by_cases hm : 0 < many
    · rw [if_pos hm, decide_eq_true (by omega), if_pos rfl]
      simp
    · rw [if_neg hm, decide_eq_false (by omega), if_neg Bool.false_ne_true]
      simp
  intro H1 e1
  have hs1 := hs.mono e1
  refine' a_when (K := K) (b := decide (line.getD 1 0 = 0)) (et1 (er_op (er_num (n := 1) (er_var rfl hs1) er_c (by omega)) er_c ro_eqI)) ?g4 ?g5
  case g4 =>
    intro hb H2 e2
    have hb' : line.getD 1 0 = 0 := of_decide_eq_true hb
    have hs2 := hs1.mono e2
    refine' a_rete (K := K) (er_lcR' (K := K) (n := cntM line many) (vs := [3]) (fun k => .int ((line.getD 2 0 + (k : Int)) % (many : Int))) ?g6 (by omega) (fun _ => rfl) ?g7) ?g8 (e1.trans e2) hk
    case g6 => walk_at "era"
    case g7 =>
      intro i H3 e3 hi
      exact er_op (er_cb (era_cons (er_op (er_num (n := 2) (er_var rfl (hs2.mono e3)) er_c (by omega)) (er_v rfl) ro_I0) era_nil) rc_int) (er_v rfl) (ro_mod (by have := hc.2 (by omega); omega))
    show Dd.n _ = Dd.n (vis (numM many line))
    unfold numM
    rw [vis, List.map_map]
    simp only [hb', if_true]
    rfl
  case g5 =>
    intro hb H2 e2
    have hb' : ¬ line.getD 1 0 = 0 := of_decide_eq_false hb
    have hs2 := hs1.mono e2
    refine' a_rete (K := K) (er_lcR' (K := K) (n := cntM line many) (vs := [3]) (fun k => .int (line.getD (2 + k) 0 % (many : Int))) ?g9 (by omega) (fun _ => rfl) ?g10) ?g11 (e1.trans e2) hk
    case g9 => walk_at "era"
    case g10 =>
      intro i H3 e3 hi
      exact er_op (er_cb (era_cons (er_num (n := 2 + i) (er_var rfl (hs2.mono e3)) (er_op er_c (er_v rfl) ro_I0) (by omega)) era_nil) rc_int) (er_v rfl) (ro_mod (by have := hc.2 (by omega); omega))
    show Dd.n _ = Dd.n (vis (numM many line))
    unfold numM
    rw [vis, List.map_map]
    simp only [hb', if_false]
    rfl
end
end Mi

set_option maxHeartbeats 4000000
namespace Mi
open PySem PySem.Spec PyProof.Rows L2 Evl
local macro_rules | `(tactic| walk_at "side") => `(tactic| (first | assumption | omega | exact rfl | decide | (simp only [List.length_cons, List.length_nil, List.length_map, List.length_append, List.length_replicate] <;> omega)))
local macro_rules | `(tactic| walk_at "ro") => `(tactic| (first
  | with_reducible exact ro_I0
  | with_reducible exact ro_1018
  | with_reducible exact ro_neC
  | with_reducible exact ro_eqC
  | with_reducible exact ro_neI
  | with_reducible exact ro_eqI
  | with_reducible exact ro_neB
  | with_reducible exact ro_eqB
  | ((with_reducible apply ro_mod); (walk_at "side"))
  | ((with_reducible apply ro_div) <;> (walk_at "side"))
  | ((with_reducible apply ro_divW) <;> (walk_at "side"))
  | with_reducible exact ro_1012
  | with_reducible exact ro_1015
  | ((with_reducible apply ro_mulL) <;> (walk_at "side"))
  | ((with_reducible apply ro_mulR) <;> (walk_at "side"))
  | ((with_reducible apply ro_addC); (walk_at "side"))
  | ((with_reducible apply ro_ixC) <;> (walk_at "side"))
  | ((with_reducible apply ro_ixI) <;> (walk_at "side"))
  | ((with_reducible apply ro_ixIN) <;> (walk_at "side"))
  | ((with_reducible apply ro_ixT2) <;> (walk_at "side"))
  | ((with_reducible apply ro_ixG) <;> (walk_at "side"))
  | ((with_reducible apply ro_eq); exact rfl)
  | ((with_reducible apply ro_ne); exact rfl)
  | with_reducible exact ro_isN
  | with_reducible exact ro_notN
  | with_reducible exact ro_eqL
  | with_reducible exact ro_neL
  | with_reducible exact ro_eqU
  | ((with_reducible apply ro_cat); (walk_at "side"))
  | with_reducible exact ro_inLi
  | with_reducible exact ro_inNi
  | with_reducible exact ro_inUi
  | ((with_reducible apply ro_inL) <;> (walk_at "side"))
  | ((with_reducible apply ro_inN) <;> (walk_at "side"))
  | ((with_reducible apply ro_inU) <;> (walk_at "side"))))
local macro_rules | `(tactic| walk_at "rc") => `(tactic| (first
  | with_reducible exact rc_int
  | with_reducible exact rc_intB
  | with_reducible exact rc_max2
  | ((with_reducible apply rc_lenC); (walk_at "side"))
  | with_reducible exact rc_lenI
  | with_reducible exact rc_lenT
  | with_reducible exact rc_lenIN
  | with_reducible exact rc_lenTN
  | with_reducible exact rc_lenL
  | with_reducible exact rc_lenN
  | with_reducible exact rc_lenU
  | with_reducible exact rc_listL
  | with_reducible exact rc_listU
  | with_reducible exact rc_tupL
  | with_reducible exact rc_tupN
  | ((with_reducible apply rc_isi_int); decide +kernel)
  | ((with_reducible apply rc_isi_str); decide +kernel)
  | ((with_reducible apply rc_isi_bl); decide +kernel)
  | ((with_reducible apply rc_isi_non); decide +kernel)
  | ((with_reducible apply rc_isi_u); decide +kernel)
  | ((with_reducible apply rc_isi_l); decide +kernel)))
local macro_rules | `(tactic| walk_at "er") => `(tactic| (first
  | ((with_reducible apply er_var); (exact rfl); assumption)
  | ((with_reducible apply er_v); exact rfl)
  | with_reducible exact er_c
  | ((with_reducible apply er_pick); (walk_at "er"); (walk_at "er"); (walk_at "er"))
  | ((with_reducible apply er_op); (walk_at "er"); (walk_at "er"); (walk_at "ro"))
  | ((with_reducible apply er_cb); (walk_at "era"); (walk_at "rc"))
  | ((with_reducible apply er_lst'); (walk_at "era"); (exact rfl); (walk_at "side"))
  | ((with_reducible apply er_tup'); (walk_at "era"); (exact rfl); (walk_at "side"))
  | ((with_reducible apply er_notV); (walk_at "er"))
  | ((with_reducible apply er_andV); (walk_at "er"); (intro _; (walk_at "er")))
  | ((with_reducible apply er_orV); (walk_at "er"); (intro _; (walk_at "er")))
  | ((with_reducible apply er_ite); (walk_at "et"); (intro _; (walk_at "er")); (intro _; (walk_at "er")))))
local macro_rules | `(tactic| walk_at "era") => `(tactic| (first
  | with_reducible exact era_nil
  | ((with_reducible apply era_cons); (walk_at "er"); (walk_at "era"))))
local macro_rules | `(tactic| walk_at "et") => `(tactic| (first
  | ((with_reducible apply et_an); (walk_at "et"); (intro _; (walk_at "et")))
  | ((with_reducible apply et_orr); (walk_at "et"); (intro _; (walk_at "et")))
  | ((with_reducible apply et_nt); (walk_at "et"))
  | ((with_reducible apply et1); (walk_at "er"))
  | ((with_reducible apply et2); (walk_at "er"))))

section
variable {P : Program} {w : World} {K : PySem.W.Frag} {mg : Str → Option Value} {base : Heap}

abbrev s__law_names : Stmt := topS 45
theorem sc__law_names : FnScope ["line", "many", "letters", "signs", "word", "menu", "size", "spot", "k"] ["line", "many"] (defScope s__law_names) := ⟨rfl, rfl, rfl, by decide +kernel, rfl, by decide +kernel, by decide +kernel⟩

def both : List Nat := letters ++ digits
def wordM (line : List Int) : List Nat := [letters.getD (line.getD 1 0 % 26).toNat 0] ++ (List.range 7).map fun k => both.getD (line.getD (2 + k) 0 % 36).toNat 0
theorem wordM_len {line : List Int} : (wordM line).length = 8 := by simp [wordM]
def preM (line : List Int) (k : Nat) : List Nat := (wordM line).take (((line.getD 9 0 + 3 * (k : Int)) % 8).toNat + 1)
def menuL : List (List Nat) := [[120], [98, 101, 116, 97], [121, 50], [109, 115], [113], [99, 111, 112, 121, 49, 48], [122], [97, 108, 112, 104, 97, 49]]
def mnuM (line : List Int) (k : Nat) : List Nat := menuL.getD ((line.getD 9 0 + (k : Int)) % 8).toNat []
def sizN (line : List Int) : Nat := 1 + (line.getD 9 0 % 8).toNat
def spotN (line : List Int) : Nat := (line.getD 2 0 % (sizN line : Int)).toNat
def sgM (line : List Int) : List Nat := if spotN line = 0 then letters else both
def thdM (line : List Int) (k : Nat) : List Nat := (wordM line).take (spotN line) ++ [(sgM line).getD ((line.getD 3 0 + 7 * (k : Int)) % ((sgM line).length : Int)).toNat 0] ++ ((wordM line).drop (spotN line + 1)).take (sizN line - (spotN line + 1))
def nameM (line : List Int) (many : Nat) (k : Nat) : List Nat := if line.getD 0 0 < 2 ∧ many ≤ 8 then preM line k else if 3 < line.getD 0 0 ∧ many ≤ 8 then mnuM line k else thdM line k
def namesM (line : List Int) (many : Nat) : List (List Nat) := (List.range many).map (nameM line many)
theorem sizN_bd (line : List Int) : 1 ≤ sizN line ∧ sizN line ≤ 8 := by
  unfold sizN
  omega
theorem spotN_bd (line : List Int) : spotN line < sizN line ∧ ((spotN line : Nat) : Int) = line.getD 2 0 % (sizN line : Int) := by
  have h := sizN_bd line
  have q0 : 0 ≤ line.getD 2 0 % (sizN line : Int) := Int.emod_nonneg _ (by omega)
  have q1 : line.getD 2 0 % (sizN line : Int) < (sizN line : Int) := Int.emod_lt_of_pos _ (by omega)
  unfold spotN
  omega
abbrev sp__law_names (K : PySem.W.Frag) : Sp := spR K (fun a : List Int × Nat => 10 ≤ a.1.length ∧ a.2 ≤ 1000) (fun a => [.l (vis a.1), .i (a.2 : Int)]) fun a => .n (vsl (namesM a.1 a.2))
theorem has__law_names (T : Txt K mg) (h : At K mg "_law_names" s__law_names ["line", "many"]) : Has P w K mg base 1 "_law_names" ["line", "many"] (sp__law_names K) := by
  refine h.hasR sc__law_names (fun _ => rfl) fun f cdv A outer s H a vs Q E hr hp hv hk => ?_
  obtain ⟨line, many⟩ := a
  obtain ⟨h1, h2⟩ := hp
  replace h1 : 10 ≤ line.length := h1
  replace h2 : many ≤ 1000 := h2
  rcases hv with _ | ⟨⟨p, rfl, hS⟩, _ | ⟨rfl, _ | _⟩⟩
  have hs : Is K H (.l (vis line)) (.ref p) := ⟨p, rfl, hS⟩
  have sc := sc__law_names
  have lw : (wordM line).length = 8 := wordM_len
  have ll : letters.length = 26 := rfl
  have lb : both.length = 36 := rfl
  have hsz := sizN_bd line
  have hsp := spotN_bd line
  have num : ∀ {te tk : TE} {σ : L2.St} {H : Hp} {j : Nat}, Er K te σ H (.l (vis line)) → Er K tk σ H (.i (j : Int)) → j < 10 → Er K (tOp (rIxL K) te tk) σ H (.i (line.getD j 0)) := fun {te tk σ H j} q1 q2 hj => er_num q1 q2 (by omega)
  refine ⟨_, (pss_cons (ps_set (i := 2) sc.nd rfl (Or.inl rfl) (pe_strS [97, 98, 99, 100, 101, 102, 103, 104, 105, 106, 107, 108, 109, 110, 111, 112, 113, 114, 115, 116, 117, 118, 119, 120, 121, 122] (by rfl)))
    (pss_cons (ps_set (i := 3) sc.nd rfl (Or.inr rfl) (pe_op op_addS (pv 2) (pe_strS [48, 49, 50, 51, 52, 53, 54, 55, 56, 57] (by rfl))))
    (pss_cons (ps_set (i := 4) sc.nd rfl (Or.inr rfl) (pe_op op_addS (pe_ix ix_str (pv 2) (pe_op op_mod (pe_callTy cr_int (by rfl) T.b_int (by decide +kernel) (pa_cons (pe_ix (ix_list_k (K := K)) (pv 0) pe_int (fun _ _ => rfl)) pa_nil)) pe_int) (fun _ _ => rfl)) (pe_bm_k (K := K) PySem.F.plainAttrs_str PySem.F.slot_str_join PySem.F.type_str_join (mt_join_k (K := K)) (pe_strS [] (by rfl)) (pa_cons (pe_lc (own := [("k", 8)]) (g := gName 8) (by rfl) sc.nd (pi_range1 (by rfl) T.b_range (pa_cons pe_int pa_nil)) (blkOk_by (N := ["line", "many", "letters", "signs", "word", "menu", "size", "spot", "k"]) (sc := defScope s__law_names) (own := [("k", 8)]) (by decide +kernel)) (fun _ _ _ _ _ => (pg_name (i := 8) sc.nd rfl (Or.inl rfl))) (fun _ _ _ _ _ => pts_nil) (fun _ _ _ _ _ => (pe_ix ix_str (pv 3) (pe_op op_mod (pe_callTy cr_int (by rfl) T.b_int (by decide +kernel) (pa_cons (pe_ix (ix_list_k (K := K)) (pv 0) (pe_op op_add pe_int (pv 8)) (fun _ _ => rfl)) pa_nil)) pe_int) (fun _ _ => rfl)))) pa_nil))))
    (pss_cons (ps_if (PW.pt (pw_and (pt_cmpR op_lt (pe_ix (ix_list_k (K := K)) (pv 0) pe_int (fun _ _ => rfl)) pe_int (nomark _)) (pw_and1 (pt_cmpR op_le (pv 1) pe_int (nomark _))))) (pss_one (ps_ret (pe_lc (own := [("k", 8)]) (g := gName 8) (by rfl) sc.nd (pi_range1 (by rfl) T.b_range (pa_cons (pv 1) pa_nil)) (blkOk_by (N := ["line", "many", "letters", "signs", "word", "menu", "size", "spot", "k"]) (sc := defScope s__law_names) (own := [("k", 8)]) (by decide +kernel)) (fun _ _ _ _ _ => (pg_name (i := 8) sc.nd rfl (Or.inl rfl))) (fun _ _ _ _ _ => pts_nil) (fun _ _ _ _ _ => (pe_slice sl_str (pv 4) po_none (po_some (pe_op op_add (pe_op op_mod (pe_callTy cr_int (by rfl) T.b_int (by decide +kernel) (pa_cons (pe_op op_add (pe_ix (ix_list_k (K := K)) (pv 0) pe_int (fun _ _ => rfl)) (pe_op op_mul pe_int (pv 8))) pa_nil)) pe_int) pe_int))))))) pss_nil)
    (pss_cons (ps_if (PW.pt (pw_and (pt_cmpR op_gt (pe_ix (ix_list_k (K := K)) (pv 0) pe_int (fun _ _ => rfl)) pe_int (nomark _)) (pw_and1 (pt_cmpR op_le (pv 1) pe_int (nomark _))))) (pss_cons (ps_set (i := 5) sc.nd rfl (Or.inr rfl) (pe_lst (pa_cons (pe_strS [120] (by rfl)) (pa_cons (pe_strS [98, 101, 116, 97] (by rfl)) (pa_cons (pe_strS [121, 50] (by rfl)) (pa_cons (pe_strS [109, 115] (by rfl)) (pa_cons (pe_strS [113] (by rfl)) (pa_cons (pe_strS [99, 111, 112, 121, 49, 48] (by rfl)) (pa_cons (pe_strS [122] (by rfl)) (pa_cons (pe_strS [97, 108, 112, 104, 97, 49] (by rfl)) pa_nil))))))))))
    (pss_one (ps_ret (pe_lc (own := [("k", 8)]) (g := gName 8) (by rfl) sc.nd (pi_range1 (by rfl) T.b_range (pa_cons (pv 1) pa_nil)) (blkOk_by (N := ["line", "many", "letters", "signs", "word", "menu", "size", "spot", "k"]) (sc := defScope s__law_names) (own := [("k", 8)]) (by decide +kernel)) (fun _ _ _ _ _ => (pg_name (i := 8) sc.nd rfl (Or.inl rfl))) (fun _ _ _ _ _ => pts_nil) (fun _ _ _ _ _ => (pe_ix (ix_list_k (K := K)) (pv 5) (pe_op op_mod (pe_callTy cr_int (by rfl) T.b_int (by decide +kernel) (pa_cons (pe_op op_add (pe_ix (ix_list_k (K := K)) (pv 0) pe_int (fun _ _ => rfl)) (pv 8)) pa_nil)) pe_int) (fun _ _ => rfl))))))) pss_nil)
    (pss_cons (ps_set (i := 6) sc.nd rfl (Or.inr rfl) (pe_op op_add pe_int (pe_op op_mod (pe_callTy cr_int (by rfl) T.b_int (by decide +kernel) (pa_cons (pe_ix (ix_list_k (K := K)) (pv 0) pe_int (fun _ _ => rfl)) pa_nil)) pe_int)))
    (pss_cons (ps_set (i := 7) sc.nd rfl (Or.inr rfl) (pe_op op_mod (pe_callTy cr_int (by rfl) T.b_int (by decide +kernel) (pa_cons (pe_ix (ix_list_k (K := K)) (pv 0) pe_int (fun _ _ => rfl)) pa_nil)) (pv 6)))
    (pss_cons (ps_if (pt_cmpR op_eq (pv 7) pe_int (nomark _)) (pss_one (ps_set (i := 3) sc.nd rfl (Or.inr rfl) (pv 2))) pss_nil)
    (pss_one (ps_ret (pe_lc (own := [("k", 8)]) (g := gName 8) (by rfl) sc.nd (pi_range1 (by rfl) T.b_range (pa_cons (pv 1) pa_nil)) (blkOk_by (N := ["line", "many", "letters", "signs", "word", "menu", "size", "spot", "k"]) (sc := defScope s__law_names) (own := [("k", 8)]) (by decide +kernel)) (fun _ _ _ _ _ => (pg_name (i := 8) sc.nd rfl (Or.inl rfl))) (fun _ _ _ _ _ => pts_nil) (fun _ _ _ _ _ => (pe_op op_addS (pe_op op_addS (pe_slice sl_str (pv 4) po_none (po_some (pv 7))) (pe_ix ix_str (pv 3) (pe_op op_mod (pe_callTy cr_int (by rfl) T.b_int (by decide +kernel) (pa_cons (pe_op op_add (pe_ix (ix_list_k (K := K)) (pv 0) pe_int (fun _ _ => rfl)) (pe_op op_mul pe_int (pv 8))) pa_nil)) (pe_callB cr_lenStr (by rfl) T.b_len (by decide +kernel) (pa_cons (pv 3) pa_nil))) (fun _ _ => rfl))) (pe_slice sl_str (pv 4) (po_some (pe_op op_add (pv 7) pe_int)) (po_some (pv 6)))))))))))))))), ?_⟩
  refine' a_setv (K := K) (x := .str (S letters)) er_c ?g1
  intro H1 e1
  refine' a_setv (K := K) (x := .str (S both)) (er_op (d1 := .s (S letters)) (d2 := .s (S digits)) (er_v rfl) er_c (ro_addC (by decide))) ?g2
  intro H2 e2
  have hs2 := (hs.mono e1).mono e2
  refine' a_setv (K := K) (x := .str (S (wordM line))) ?g3 ?g4
  case g3 =>
    have q0 : 0 ≤ line.getD 1 0 % 26 := Int.emod_nonneg _ (by decide)
    have q1 : line.getD 1 0 % 26 < 26 := Int.emod_lt_of_pos _ (by decide)
    refine er_op (d1 := .s (S [letters.getD (line.getD 1 0 % 26).toNat 0])) (d2 := .s (S ((List.range 7).map fun k => both.getD (line.getD (2 + k) 0 % 36).toNat 0))) (er_op (d2 := .i (line.getD 1 0 % 26)) (er_v rfl) (er_op (er_cb (era_cons (num (j := 1) (er_var rfl hs2) er_c (by decide)) era_nil) rc_int) er_c (ro_mod (by decide))) (ro_ixC q0 (by rw [ll]; exact q1) (by rw [ll]; decide))) (er_bm (K := K) (d0 := .s (S [])) (ds := [.n (((List.range 7).map fun k => both.getD (line.getD (2 + k) 0 % 36).toNat 0).map fun c => V.str (S [c]))]) er_c (era_cons (Er.to (er_lcR' (K := K) (n := 7) (vs := [8]) (fun k => V.str (S [both.getD (line.getD (2 + k) 0 % 36).toNat 0])) (era_cons er_c era_nil) (by decide) (fun _ => rfl) ?g5) ?g6) era_nil) (rm_joinC ?g7)) (ro_addC (by simp))
    case g5 =>
      intro i H3 e3 hi
      have q0 : 0 ≤ line.getD (2 + i) 0 % 36 := Int.emod_nonneg _ (by decide)
      have q1 : line.getD (2 + i) 0 % 36 < 36 := Int.emod_lt_of_pos _ (by decide)
      exact er_op (d2 := .i (line.getD (2 + i) 0 % 36)) (er_v rfl) (er_op (er_cb (era_cons (num (j := 2 + i) (er_var rfl (hs2.mono e3)) (er_op er_c (er_v rfl) ro_I0) (by omega)) era_nil) rc_int) er_c (ro_mod (by decide))) (ro_ixC q0 (by rw [lb]; exact q1) (by rw [lb]; decide))
    case g6 =>
      rw [List.map_map]
      rfl
    case g7 => simp
  intro H3 e3
  have hs3 := hs2.mono e3
  refine' a_when (K := K) (b := (decide (line.getD 0 0 < 2) && decide ((many : Int) ≤ 8))) (et_an (et1 (er_op (num (j := 0) (er_var rfl hs3) er_c (by decide)) er_c ro_I0)) fun _ => et1 (er_op (er_v rfl) er_c ro_I0)) ?g8 ?g9
  case g8 =>
    intro hb H4 e4
    have hb' : line.getD 0 0 < 2 ∧ many ≤ 8 := by
      rw [Bool.and_eq_true] at hb
      have a := of_decide_eq_true hb.1
      have b := of_decide_eq_true hb.2
      omega
    have hs4 := hs3.mono e4
    refine' a_rete (K := K) (er_lcR' (K := K) (n := many) (vs := [8]) (fun k => .str (S (preM line k))) (era_cons (er_v rfl) era_nil) (by omega) (fun _ => rfl) ?g10) ?g11 (((e1.trans e2).trans e3).trans e4) hk
    case g10 =>
      intro i H5 e5 hi
      have q0 : 0 ≤ (line.getD 9 0 + 3 * (i : Int)) % 8 := Int.emod_nonneg _ (by decide)
      have q2 : (((((line.getD 9 0 + 3 * (i : Int)) % 8).toNat + 1 : Nat)) : Int) = (line.getD 9 0 + 3 * (i : Int)) % 8 + 1 := by omega
      exact er_slTo (n := ((line.getD 9 0 + 3 * (i : Int)) % 8).toNat + 1) (er_v rfl) (by omega) (Er.to (er_op (er_op (er_cb (era_cons (er_op (num (j := 9) (er_var rfl (hs4.mono e5)) er_c (by decide)) (er_op er_c (er_v rfl) (ro_mulL (by decide) (by decide))) ro_I0) era_nil) rc_int) er_c (ro_mod (by decide))) er_c ro_I0) (congrArg Dd.i q2.symm))
    show Dd.n _ = Dd.n (vsl (namesM line many))
    rw [namesM, vsl, vss, List.map_map, List.map_map]
    congr 1
    refine List.map_congr_left fun k _ => ?_
    show V.str (S (preM line k)) = V.str (S (nameM line many k))
    unfold nameM
    rw [if_pos hb']
  case g9 =>
    intro hb H4 e4
    have hb' : ¬ (line.getD 0 0 < 2 ∧ many ≤ 8) := by
      intro z
      rw [decide_eq_true z.1, decide_eq_true (by omega)] at hb
      cases hb
    have hs4 := hs3.mono e4
    refine' a_when (K := K) (b := (decide (3 < line.getD 0 0) && decide ((many : Int) ≤ 8))) (et_an (et1 (er_op (num (j := 0) (er_var rfl hs4) er_c (by decide)) er_c ro_I0)) fun _ => et1 (er_op (er_v rfl) er_c ro_I0)) ?g12 ?g13
    case g12 =>
      intro hc H5 e5
      have hc' : 3 < line.getD 0 0 ∧ many ≤ 8 := by
        rw [Bool.and_eq_true] at hc
        have a := of_decide_eq_true hc.1
        have b := of_decide_eq_true hc.2
        omega
      have hs5 := hs4.mono e5
      refine' a_asg (K := K) (d := .n (vsl menuL)) (er_lst (vs := vsl menuL) ?g14 (by decide)) ?g15
      case g14 => repeat (first | exact era_nil | refine era_cons er_c ?_)
      intro v H6 e6 hv6
      have hs6 := hs5.mono e6
      refine' a_rete (K := K) (er_lcR' (K := K) (n := many) (vs := [8]) (fun k => .str (S (mnuM line k))) (era_cons (er_v rfl) era_nil) (by omega) (fun _ => rfl) ?g16) ?g17 (((((e1.trans e2).trans e3).trans e4).trans e5).trans e6) hk
      case g16 =>
        intro i H7 e7 hi
        have q0 : 0 ≤ (line.getD 9 0 + (i : Int)) % 8 := Int.emod_nonneg _ (by decide)
        have q1 : (line.getD 9 0 + (i : Int)) % 8 < 8 := Int.emod_lt_of_pos _ (by decide)
        exact er_op (d2 := .i ((line.getD 9 0 + (i : Int)) % 8)) (er_var rfl (hv6.mono e7)) (er_op (er_cb (era_cons (er_op (num (j := 9) (er_var rfl (hs6.mono e7)) er_c (by decide)) (er_v rfl) ro_I0) era_nil) rc_int) er_c (ro_mod (by decide))) (ro_ixSN q0 (by show _ < ((8 : Nat) : Int); exact q1))
      show Dd.n _ = Dd.n (vsl (namesM line many))
      rw [namesM, vsl, vss, List.map_map, List.map_map]
      congr 1
      refine List.map_congr_left fun k _ => ?_
      show V.str (S (mnuM line k)) = V.str (S (nameM line many k))
      unfold nameM
      rw [if_neg hb', if_pos hc']
    case g13 =>
      intro hc H5 e5
      have hc' : ¬ (3 < line.getD 0 0 ∧ many ≤ 8) := by
        intro z
        rw [decide_eq_true z.1, decide_eq_true (by omega)] at hc
        cases hc
      have hs5 := hs4.mono e5
      refine' a_setv (K := K) (x := .int (sizN line : Int)) (Er.to (er_op er_c (er_op (er_cb (era_cons (num (j := 9) (er_var rfl hs5) er_c (by decide)) era_nil) rc_int) er_c (ro_mod (by decide))) ro_I0) ?g18) ?g19
      case g18 =>
        show Dd.i (1 + line.getD 9 0 % 8) = Dd.i (sizN line : Int)
        congr 2
        unfold sizN
        omega
      intro H6 e6
      have hs6 := hs5.mono e6
      refine' a_setv (K := K) (x := .int (spotN line : Int)) (Er.to (er_op (er_cb (era_cons (num (j := 2) (er_var rfl hs6) er_c (by decide)) era_nil) rc_int) (er_v rfl) (ro_mod (by omega))) (congrArg Dd.i hsp.2.symm)) ?g20
      intro H7 e7
      have hs7 := hs6.mono e7
      refine' a_ifSetS (K := K) (c := letters) (e := both) (b := decide ((spotN line : Int) = 0)) (et1 (er_op (er_v rfl) er_c ro_eqI)) (fun _ => er_v rfl) rfl ?g21
      intro H8 e8
      have hs8 := hs7.mono e8
      have esg : (if decide ((spotN line : Int) = 0) = true then letters else both) = sgM line := by
        unfold sgM
        by_cases z : spotN line = 0
        · rw [if_pos z, decide_eq_true (by omega), if_pos rfl]
        · rw [if_neg z, decide_eq_false (by omega), if_neg Bool.false_ne_true]
      rw [esg]
      have lsg : 26 ≤ (sgM line).length ∧ (sgM line).length ≤ 36 := by
        unfold sgM
        split
        · rw [ll]; omega
        · rw [lb]; omega
      refine' a_rete (K := K) (er_lcR' (K := K) (n := many) (vs := [8]) (fun k => .str (S (thdM line k))) (era_cons (er_v rfl) era_nil) (by omega) (fun _ => rfl) ?g22) ?g23 (e1.trans (e2.trans (e3.trans (e4.trans (e5.trans (e6.trans (e7.trans e8))))))) hk
      case g22 =>
        intro i H9 e9 hi
        have hs9 := hs8.mono e9
        have q0 : 0 ≤ (line.getD 3 0 + 7 * (i : Int)) % ((sgM line).length : Int) := Int.emod_nonneg _ (by omega)
        have q1 : (line.getD 3 0 + 7 * (i : Int)) % ((sgM line).length : Int) < ((sgM line).length : Int) := Int.emod_lt_of_pos _ (by omega)
        refine er_op (d1 := .s (S ((wordM line).take (spotN line) ++ [(sgM line).getD ((line.getD 3 0 + 7 * (i : Int)) % ((sgM line).length : Int)).toNat 0]))) (d2 := .s (S (((wordM line).drop (spotN line + 1)).take (sizN line - (spotN line + 1))))) (er_op (d1 := .s (S ((wordM line).take (spotN line)))) (d2 := .s (S [(sgM line).getD ((line.getD 3 0 + 7 * (i : Int)) % ((sgM line).length : Int)).toNat 0])) (er_slTo (er_v rfl) (by omega) (er_v rfl)) ?g24 (ro_addC (by simp; omega))) (er_slMidS (n := spotN line + 1) (m := sizN line) (er_v rfl) (by omega) (er_op (er_v rfl) er_c ro_I0) (er_v rfl) (by omega)) (ro_addC (by simp; omega))
        case g24 => exact er_op (d2 := .i ((line.getD 3 0 + 7 * (i : Int)) % ((sgM line).length : Int))) (er_v rfl) (er_op (er_cb (era_cons (er_op (num (j := 3) (er_var rfl hs9) er_c (by decide)) (er_op er_c (er_v rfl) (ro_mulL (by decide) (by decide))) ro_I0) era_nil) rc_int) (er_cb (era_cons (er_v rfl) era_nil) (rc_lenC (z := sgM line) (by omega))) (ro_mod (by omega : (0 : Int) < ((sgM line).length : Int)))) (ro_ixC q0 q1 (by omega))
      show Dd.n _ = Dd.n (vsl (namesM line many))
      rw [namesM, vsl, vss, List.map_map, List.map_map]
      congr 1
      refine List.map_congr_left fun k _ => ?_
      show V.str (S (thdM line k)) = V.str (S (nameM line many k))
      unfold nameM
      rw [if_neg hb', if_neg hc']
end
end Mi

set_option maxHeartbeats 4000000
namespace Mi
open PySem PySem.Spec PyProof.Rows L2 Evl
local macro_rules | `(tactic| walk_at "side") => `(tactic| (first | assumption | omega | exact rfl | decide | (simp only [List.length_cons, List.length_nil, List.length_map, List.length_append, List.length_replicate] <;> omega)))
local macro_rules | `(tactic| walk_at "ro") => `(tactic| (first
  | with_reducible exact ro_I0
  | with_reducible exact ro_1018
  | with_reducible exact ro_neC
  | with_reducible exact ro_eqC
  | with_reducible exact ro_neI
  | with_reducible exact ro_eqI
  | with_reducible exact ro_neB
  | with_reducible exact ro_eqB
  | ((with_reducible apply ro_mod); (walk_at "side"))
  | ((with_reducible apply ro_div) <;> (walk_at "side"))
  | ((with_reducible apply ro_divW) <;> (walk_at "side"))
  | with_reducible exact ro_1012
  | with_reducible exact ro_1015
  | ((with_reducible apply ro_mulL) <;> (walk_at "side"))
  | ((with_reducible apply ro_mulR) <;> (walk_at "side"))
  | ((with_reducible apply ro_addC); (walk_at "side"))
  | ((with_reducible apply ro_ixC) <;> (walk_at "side"))
  | ((with_reducible apply ro_ixI) <;> (walk_at "side"))
  | ((with_reducible apply ro_ixIN) <;> (walk_at "side"))
  | ((with_reducible apply ro_ixT2) <;> (walk_at "side"))
  | ((with_reducible apply ro_ixG) <;> (walk_at "side"))
  | ((with_reducible apply ro_eq); exact rfl)
  | ((with_reducible apply ro_ne); exact rfl)
  | with_reducible exact ro_isN
  | with_reducible exact ro_notN
  | with_reducible exact ro_eqL
  | with_reducible exact ro_neL
  | with_reducible exact ro_eqU
  | ((with_reducible apply ro_cat); (walk_at "side"))
  | with_reducible exact ro_inLi
  | with_reducible exact ro_inNi
  | with_reducible exact ro_inUi
  | ((with_reducible apply ro_inL) <;> (walk_at "side"))
  | ((with_reducible apply ro_inN) <;> (walk_at "side"))
  | ((with_reducible apply ro_inU) <;> (walk_at "side"))))
local macro_rules | `(tactic| walk_at "rc") => `(tactic| (first
  | with_reducible exact rc_int
  | with_reducible exact rc_intB
  | with_reducible exact rc_max2
  | ((with_reducible apply rc_lenC); (walk_at "side"))
  | with_reducible exact rc_lenI
  | with_reducible exact rc_lenT
  | with_reducible exact rc_lenIN
  | with_reducible exact rc_lenTN
  | with_reducible exact rc_lenL
  | with_reducible exact rc_lenN
  | with_reducible exact rc_lenU
  | with_reducible exact rc_listL
  | with_reducible exact rc_listU
  | with_reducible exact rc_tupL
  | with_reducible exact rc_tupN
  | ((with_reducible apply rc_isi_int); decide +kernel)
  | ((with_reducible apply rc_isi_str); decide +kernel)
  | ((with_reducible apply rc_isi_bl); decide +kernel)
  | ((with_reducible apply rc_isi_non); decide +kernel)
  | ((with_reducible apply rc_isi_u); decide +kernel)
  | ((with_reducible apply rc_isi_l); decide +kernel)))
local macro_rules | `(tactic| walk_at "er") => `(tactic| (first
  | ((with_reducible apply er_var); (exact rfl); assumption)
  | ((with_reducible apply er_v); exact rfl)
  | with_reducible exact er_c
  | ((with_reducible apply er_pick); (walk_at "er"); (walk_at "er"); (walk_at "er"))
  | ((with_reducible apply er_op); (walk_at "er"); (walk_at "er"); (walk_at "ro"))
  | ((with_reducible apply er_cb); (walk_at "era"); (walk_at "rc"))
  | ((with_reducible apply er_lst'); (walk_at "era"); (exact rfl); (walk_at "side"))
  | ((with_reducible apply er_tup'); (walk_at "era"); (exact rfl); (walk_at "side"))
  | ((with_reducible apply er_notV); (walk_at "er"))
  | ((with_reducible apply er_andV); (walk_at "er"); (intro _; (walk_at "er")))
  | ((with_reducible apply er_orV); (walk_at "er"); (intro _; (walk_at "er")))
  | ((with_reducible apply er_ite); (walk_at "et"); (intro _; (walk_at "er")); (intro _; (walk_at "er")))))
local macro_rules | `(tactic| walk_at "era") => `(tactic| (first
  | with_reducible exact era_nil
  | ((with_reducible apply era_cons); (walk_at "er"); (walk_at "era"))))
local macro_rules | `(tactic| walk_at "et") => `(tactic| (first
  | ((with_reducible apply et_an); (walk_at "et"); (intro _; (walk_at "et")))
  | ((with_reducible apply et_orr); (walk_at "et"); (intro _; (walk_at "et")))
  | ((with_reducible apply et_nt); (walk_at "et"))
  | ((with_reducible apply et1); (walk_at "er"))
  | ((with_reducible apply et2); (walk_at "er"))))

section
variable {P : Program} {w : World} {K : PySem.W.Frag} {mg : Str → Option Value} {base : Heap}

abbrev s_peeled : Stmt := topS 11
theorem sc_peeled : FnScope ["left", "stamp", "sign", "above"] ["left", "stamp"] (defScope s_peeled) := ⟨rfl, rfl, rfl, by decide +kernel, rfl, by decide +kernel, by decide +kernel⟩

abbrev sp_peeled (K : PySem.W.Frag) : Sp := spR K (fun a : List Nat × List Nat => a.1.length ≤ 1000) (fun a => [.s (S a.1), .s (S a.2)]) fun a => .s (S (freeM a.1 a.2))
theorem has_peeled (T : Txt K mg) (h : At K mg "peeled" s_peeled ["left", "stamp"]) : Has P w K mg base 1 "peeled" ["left", "stamp"] (sp_peeled K) := by
  refine h.hasR sc_peeled (fun _ => rfl) fun f cdv A outer s H a vs Q E hr hp hv hk => ?_
  obtain ⟨one, two⟩ := a
  rcases hv with _ | ⟨rfl, _ | ⟨rfl, _ | _⟩⟩
  have sc := sc_peeled
  obtain ⟨_, gc_DASH⟩ := T.g_DASH
  have hp' : one.length ≤ 1000 := hp
  refine ⟨_, (pss_one (ps_ret (pe_bm_k (K := K) PySem.F.plainAttrs_str PySem.F.slot_str_join PySem.F.type_str_join (mt_join_k (K := K)) (pe_strS [] (by rfl)) (pa_cons (pe_lc (own := [("sign", 2), ("above", 3)]) (g := gTup K 2 (gCons (gName 2) (gCons (gName 3) gNil))) (by rfl) sc.nd (pi_zipS (by rfl) T.b_zip (pa_cons (pv 0) (pa_cons (pv 1) pa_nil))) (blkOk_by (N := ["left", "stamp", "sign", "above"]) (sc := defScope s_peeled) (own := [("sign", 2), ("above", 3)]) (by decide +kernel)) (fun _ _ _ _ _ => (pg_tup rfl (pgs_cons (pg_name (i := 2) sc.nd rfl (Or.inl rfl)) (pgs_cons (pg_name (i := 3) sc.nd rfl (Or.inl rfl)) pgs_nil)))) (fun _ _ _ _ _ => pts_nil) (fun _ _ _ _ _ => (pe_ifExp (pt_cmpR op_eq (pv 3) (pe_glob (v := .str (S [45])) rfl gc_DASH ⟨_, rfl⟩) (nomark _)) (pv 2) (pe_glob (v := .str (S [45])) rfl gc_DASH ⟨_, rfl⟩)))) pa_nil)))), ?_⟩
  refine' a_rete (K := K) ?g1 rfl (Ex.refl H) hk
  refine er_bm (K := K) (d0 := .s (S [])) (ds := [.n ((freeM one two).map fun c => V.str (S [c]))]) er_c (era_cons (Er.to (c_lcZ' (K := K) (one := one) (two := two) (vs := [2, 3]) (fun p => V.str (S [if p.2 = 45 then p.1 else 45])) ?g2 (by omega) (fun _ _ => rfl) ?g5) ?g3) era_nil) (rm_joinC ?g4)
  case g2 => walk_at "era"
  case g5 =>
    intro i c1 c2 H1 e h1 h2
    refine' Er.to (K := K) ?g6 ?g7
    case g6 => walk_at "er"
    show Dd.v (if decide ([c2] = [45]) = true then V.str (S [c1]) else V.str (S [45])) = Dd.v (V.str (S [if c2 = 45 then c1 else 45]))
    by_cases h : c2 = 45
    · rw [h]; rfl
    · rw [if_neg h, decide_eq_false (by simpa using h), if_neg Bool.false_ne_true]
  case g3 => rw [freeM, List.map_map]; rfl
  case g4 =>
    unfold freeM
    rw [List.length_map, List.length_zip]
    omega

abbrev s_agree : Stmt := topS 8
theorem sc_agree : FnScope ["one", "two", "first", "second"] ["one", "two"] (defScope s_agree) := ⟨rfl, rfl, rfl, by decide +kernel, rfl, by decide +kernel, by decide +kernel⟩

abbrev sp_agree (K : PySem.W.Frag) : Sp := spR K (fun _ : List Nat × List Nat => True) (fun a => [.s (S a.1), .s (S a.2)]) fun a => .b (agreeM a.1 a.2)
theorem has_agree (T : Txt K mg) (h : At K mg "agree" s_agree ["one", "two"]) : Has P w K mg base 1 "agree" ["one", "two"] (sp_agree K) := by
  refine h.hasR sc_agree (fun _ => rfl) fun f cdv A outer s H a vs Q E hr hp hv hk => ?_
  obtain ⟨one, two⟩ := a
  rcases hv with _ | ⟨rfl, _ | ⟨rfl, _ | _⟩⟩
  have sc := sc_agree
  obtain ⟨_, gc_DASH⟩ := T.g_DASH
  refine ⟨_, (pss_cons (ps_for PassesOwn.never rfl (pi_zipS (by rfl) T.b_zip (pa_cons (pv 0) (pa_cons (pv 1) pa_nil))) (pg_tup rfl (pgs_cons (pg_name (i := 2) sc.nd rfl (Or.inl rfl)) (pgs_cons (pg_name (i := 3) sc.nd rfl (Or.inl rfl)) pgs_nil))) (pss_one (ps_if (PW.pt (pw_and (pt_cmpR op_ne (pv 2) (pv 3) (nomark _)) (pw_and (pt_cmpR op_ne (pv 2) (pe_glob (v := .str (S [45])) rfl gc_DASH ⟨_, rfl⟩) (nomark _)) (pw_and1 (pt_cmpR op_ne (pv 3) (pe_glob (v := .str (S [45])) rfl gc_DASH ⟨_, rfl⟩) (nomark _)))))) (pss_one (ps_ret pe_bl)) pss_nil)))
    (pss_one (ps_ret pe_bl))), ?_⟩
  refine c_forZ (K := K) (one := one) (two := two) (by walk_at "era") (fun i σ' H' => ∃ x y, σ' = [some (.str (S one)), some (.str (S two)), x, y] ∧ Ex H H' ∧ ((one.zip two).take i).all okP = true) (fun H1 e => ⟨none, none, rfl, e, rfl⟩) ?_ ?_
  · rintro i c1 c2 σ' H' H2 h1 h2 ⟨x, y, rfl, e, hM⟩ e2
    refine' a_when1 (K := K) ?g1 ?g2 ?g3
    case g1 => walk_at "et"
    case g2 =>
      intro hb H3 e3
      refine' a_rete (K := K) er_c ?g4 ((e.trans e2).trans e3) hk
      have e0 : agreeM one two = false := all_not (zip_at h1 h2) (by simpa [okP] using hb)
      show Dd.b false = Dd.b (agreeM one two)
      rw [e0]
    case g3 =>
      intro hb H3 e3
      refine ⟨_, _, rfl, (e.trans e2).trans e3, ?_⟩
      rw [all_next (zip_at h1 h2), hM]
      simp at hb
      simp [okP]
      omega
  · rintro σ' H' ⟨x, y, rfl, e, hM⟩
    refine' a_rete (K := K) er_c ?g6 e hk
    rw [← List.length_zip, all_end] at hM
    show Dd.b true = Dd.b (agreeM one two)
    rw [show agreeM one two = true from hM]

abbrev s_is_layer : Stmt := topS 6
theorem sc_is_layer : FnScope ["value", "sign"] ["value"] (defScope s_is_layer) := ⟨rfl, rfl, rfl, by decide +kernel, rfl, by decide +kernel, by decide +kernel⟩

def signOk (c : Nat) : Bool := decide (c = 45) || decide (c ∈ alls)
def layerOk (l : List Nat) : Bool := (decide (1 ≤ l.length) && decide (l.length ≤ 30)) && l.all signOk
abbrev sp_is_layer (K : PySem.W.Frag) : Sp := spR K (fun a : List Nat => a.length ≤ 1000) (fun a => [.s (S a)]) fun a => .b (layerOk a)
theorem has_is_layer (T : Txt K mg) (h : At K mg "is_layer" s_is_layer ["value"]) : Has P w K mg base 1 "is_layer" ["value"] (sp_is_layer K) := by
  refine h.hasR sc_is_layer (fun _ => rfl) fun f cdv A outer s H a vs Q E hr hp hv hk => ?_
  replace hp : a.length ≤ 1000 := hp
  rcases hv with _ | ⟨rfl, _ | _⟩
  have sc := sc_is_layer
  obtain ⟨_, gc_DASH⟩ := T.g_DASH
  obtain ⟨_, gc_MARKS⟩ := T.g_MARKS
  obtain ⟨_, gc_LONGEST⟩ := T.g_LONGEST
  refine ⟨_, (pss_cons (ps_if (pt_not (pt_val (pe_callB (cr_isi_k (K := K)) (by rfl) T.b_isinstance (by decide +kernel) (pa_cons (pv 0) (pa_cons (pe_bltn (v := .ty "str") (by rfl) T.b_str (by decide +kernel) rfl) pa_nil))))) (pss_one (ps_ret pe_bl)) pss_nil)
    (pss_cons (ps_if (pt_not (pt_chain op_le op_le pe_int (pe_callB cr_lenStr (by rfl) T.b_len (by decide +kernel) (pa_cons (pv 0) pa_nil)) (pe_glob (v := .int 30) rfl gc_LONGEST ⟨_, rfl⟩))) (pss_one (ps_ret pe_bl)) pss_nil)
    (pss_one (ps_ret (pe_callB (cr_all_k (K := K)) (by rfl) T.b_all (by decide +kernel) (pa_cons (pe_lc (own := [("sign", 1)]) (g := gName 1) (by rfl) sc.nd (pi_str (pv 0)) (blkOk_by (N := ["value", "sign"]) (sc := defScope s_is_layer) (own := [("sign", 1)]) (by decide +kernel)) (fun _ _ _ _ _ => (pg_name (i := 1) sc.nd rfl (Or.inl rfl))) (fun _ _ _ _ _ => pts_nil) (fun _ _ _ _ _ => (pe_or (pe_cmpR op_eq (pv 1) (pe_glob (v := .str (S [45])) rfl gc_DASH ⟨_, rfl⟩) (nomark _)) (pe_one (pe_cmpR op_inS (pv 1) (pe_glob (v := .str (S alls)) rfl gc_MARKS ⟨_, rfl⟩) rfl))))) pa_nil)))))), ?_⟩
  refine' a_when (K := K) (b := !true) (et_nt (et2 (er_cb (era_cons (er_v rfl) (era_cons er_c era_nil)) (rc_isi_str (by decide +kernel))))) ?g1 ?g2
  case g1 =>
    intro hb
    cases hb
  case g2 =>
    intro _ H1 e1
    refine' a_when (K := K) (b := !(decide ((1 : Int) ≤ (a.length : Int)) && decide ((a.length : Int) ≤ 30))) (et_nt (et1 (er_chain er_c (er_cb (era_cons (er_v rfl) era_nil) (rc_lenC (z := a) (by omega))) ro_I0 (fun _ => er_c) fun _ => ro_I0))) ?g3 ?g4
    case g3 =>
      intro hb H2 e2
      refine a_rete (K := K) er_c ?_ (e1.trans e2) hk
      have e0 : layerOk a = false := by
        unfold layerOk
        have q : (decide (1 ≤ a.length) && decide (a.length ≤ 30)) = false := by
          simp at hb ⊢
          omega
        rw [q]
        rfl
      show Dd.b false = Dd.b (layerOk a)
      rw [e0]
    case g4 =>
      intro hb H2 e2
      refine' a_rete (K := K) (er_cb (era_cons (Er.to (c_lcS' (K := K) (z := a) (vs := [1]) (fun c => V.bl (signOk c)) (er_v rfl) (by omega) (fun _ => rfl) ?g5) ?g6) era_nil) rc_allBN) ?g7 (e1.trans e2) hk
      case g5 =>
        intro i c H3 e3 hi
        refine Er.to (er_orV (a := decide ([c] = [45])) (b := decide (c ∈ alls)) (er_op (er_v rfl) er_c ro_eqC) fun _ => er_op (d1 := .s (S [c])) (d2 := .s (S alls)) (er_v rfl) er_c (ro_inS (c := c))) ?_
        show Dd.b _ = Dd.b (signOk c)
        unfold signOk
        simp
      case g6 =>
        show Dd.n (a.map (V.bl ∘ signOk)) = Dd.n ((a.map signOk).map V.bl)
        rw [List.map_map]
      show Dd.b ((a.map signOk).all id) = Dd.b (layerOk a)
      unfold layerOk
      have q : (decide (1 ≤ a.length) && decide (a.length ≤ 30)) = true := by
        simp at hb ⊢
        omega
      rw [q, List.all_map]
      rfl
end
end Mi

set_option maxHeartbeats 4000000
namespace Mi
open PySem PySem.Spec PyProof.Rows L2 Evl
local macro_rules | `(tactic| walk_at "side") => `(tactic| (first | assumption | omega | exact rfl | decide | (simp only [List.length_cons, List.length_nil, List.length_map, List.length_append, List.length_replicate] <;> omega)))
local macro_rules | `(tactic| walk_at "ro") => `(tactic| (first
  | with_reducible exact ro_I0
  | with_reducible exact ro_1018
  | with_reducible exact ro_neC
  | with_reducible exact ro_eqC
  | with_reducible exact ro_neI
  | with_reducible exact ro_eqI
  | with_reducible exact ro_neB
  | with_reducible exact ro_eqB
  | ((with_reducible apply ro_mod); (walk_at "side"))
  | ((with_reducible apply ro_div) <;> (walk_at "side"))
  | ((with_reducible apply ro_divW) <;> (walk_at "side"))
  | with_reducible exact ro_1012
  | with_reducible exact ro_1015
  | ((with_reducible apply ro_mulL) <;> (walk_at "side"))
  | ((with_reducible apply ro_mulR) <;> (walk_at "side"))
  | ((with_reducible apply ro_addC); (walk_at "side"))
  | ((with_reducible apply ro_ixC) <;> (walk_at "side"))
  | ((with_reducible apply ro_ixI) <;> (walk_at "side"))
  | ((with_reducible apply ro_ixIN) <;> (walk_at "side"))
  | ((with_reducible apply ro_ixT2) <;> (walk_at "side"))
  | ((with_reducible apply ro_ixG) <;> (walk_at "side"))
  | ((with_reducible apply ro_eq); exact rfl)
  | ((with_reducible apply ro_ne); exact rfl)
  | with_reducible exact ro_isN
  | with_reducible exact ro_notN
  | with_reducible exact ro_eqL
  | with_reducible exact ro_neL
  | with_reducible exact ro_eqU
  | ((with_reducible apply ro_cat); (walk_at "side"))
  | with_reducible exact ro_inLi
  | with_reducible exact ro_inNi
  | with_reducible exact ro_inUi
  | ((with_reducible apply ro_inL) <;> (walk_at "side"))
  | ((with_reducible apply ro_inN) <;> (walk_at "side"))
  | ((with_reducible apply ro_inU) <;> (walk_at "side"))))
local macro_rules | `(tactic| walk_at "rc") => `(tactic| (first
  | with_reducible exact rc_int
  | with_reducible exact rc_intB
  | with_reducible exact rc_max2
  | ((with_reducible apply rc_lenC); (walk_at "side"))
  | with_reducible exact rc_lenI
  | with_reducible exact rc_lenT
  | with_reducible exact rc_lenIN
  | with_reducible exact rc_lenTN
  | with_reducible exact rc_lenL
  | with_reducible exact rc_lenN
  | with_reducible exact rc_lenU
  | with_reducible exact rc_listL
  | with_reducible exact rc_listU
  | with_reducible exact rc_tupL
  | with_reducible exact rc_tupN
  | ((with_reducible apply rc_isi_int); decide +kernel)
  | ((with_reducible apply rc_isi_str); decide +kernel)
  | ((with_reducible apply rc_isi_bl); decide +kernel)
  | ((with_reducible apply rc_isi_non); decide +kernel)
  | ((with_reducible apply rc_isi_u); decide +kernel)
  | ((with_reducible apply rc_isi_l); decide +kernel)))
local macro_rules | `(tactic| walk_at "er") => `(tactic| (first
  | ((with_reducible apply er_var); (exact rfl); assumption)
  | ((with_reducible apply er_v); exact rfl)
  | with_reducible exact er_c
  | ((with_reducible apply er_pick); (walk_at "er"); (walk_at "er"); (walk_at "er"))
  | ((with_reducible apply er_op); (walk_at "er"); (walk_at "er"); (walk_at "ro"))
  | ((with_reducible apply er_cb); (walk_at "era"); (walk_at "rc"))
  | ((with_reducible apply er_lst'); (walk_at "era"); (exact rfl); (walk_at "side"))
  | ((with_reducible apply er_tup'); (walk_at "era"); (exact rfl); (walk_at "side"))
  | ((with_reducible apply er_notV); (walk_at "er"))
  | ((with_reducible apply er_andV); (walk_at "er"); (intro _; (walk_at "er")))
  | ((with_reducible apply er_orV); (walk_at "er"); (intro _; (walk_at "er")))
  | ((with_reducible apply er_ite); (walk_at "et"); (intro _; (walk_at "er")); (intro _; (walk_at "er")))))
local macro_rules | `(tactic| walk_at "era") => `(tactic| (first
  | with_reducible exact era_nil
  | ((with_reducible apply era_cons); (walk_at "er"); (walk_at "era"))))
local macro_rules | `(tactic| walk_at "et") => `(tactic| (first
  | ((with_reducible apply et_an); (walk_at "et"); (intro _; (walk_at "et")))
  | ((with_reducible apply et_orr); (walk_at "et"); (intro _; (walk_at "et")))
  | ((with_reducible apply et_nt); (walk_at "et"))
  | ((with_reducible apply et1); (walk_at "er"))
  | ((with_reducible apply et2); (walk_at "er"))))

section
variable {P : Program} {w : World} {K : PySem.W.Frag} {mg : Str → Option Value} {base : Heap}

abbrev s_cells_of : Stmt := topS 7
theorem sc_cells_of : FnScope ["one", "cell", "sign"] ["one"] (defScope s_cells_of) := ⟨rfl, rfl, rfl, by decide +kernel, rfl, by decide +kernel, by decide +kernel⟩

def cellsM (a : List Nat) : List Int := (a.zipIdx.filter fun p => !decide (p.1 = 45)).map fun p => ((p.2 : Nat) : Int)
abbrev sp_cells (K : PySem.W.Frag) : Sp := spR K (fun a : List Nat => a.length ≤ 1000) (fun a => [.s (S a)]) fun a => .u (vis (cellsM a))
theorem has_cells_of (T : Txt K mg) (h : At K mg "cells_of" s_cells_of ["one"]) : Has P w K mg base 1 "cells_of" ["one"] (sp_cells K) := by
  refine h.hasR sc_cells_of (fun _ => rfl) fun f cdv A outer s H a vs Q E hr hp hv hk => ?_
  rcases hv with _ | ⟨rfl, _ | _⟩
  have sc := sc_cells_of
  obtain ⟨_, gc_DASH⟩ := T.g_DASH
  replace hp : a.length ≤ 1000 := hp
  refine ⟨_, (pss_one (ps_ret (pe_callTy (cr_tuple_k (K := K)) (by rfl) T.b_tuple (by decide +kernel) (pa_cons (pe_lc (own := [("cell", 1), ("sign", 2)]) (g := gTup K 2 (gCons (gName 1) (gCons (gName 2) gNil))) (by rfl) sc.nd (pi_enumS (by rfl) T.b_enumerate (pa_cons (pv 0) pa_nil)) (blkOk_by (N := ["one", "cell", "sign"]) (sc := defScope s_cells_of) (own := [("cell", 1), ("sign", 2)]) (by decide +kernel)) (fun _ _ _ _ _ => (pg_tup rfl (pgs_cons (pg_name (i := 1) sc.nd rfl (Or.inl rfl)) (pgs_cons (pg_name (i := 2) sc.nd rfl (Or.inl rfl)) pgs_nil)))) (fun _ _ _ _ _ => (pts_one (pt_cmpR op_ne (pv 2) (pe_glob (v := .str (S [45])) rfl gc_DASH ⟨_, rfl⟩) (nomark _)))) (fun _ _ _ _ _ => (pv 1))) pa_nil)))), ?_⟩
  refine' a_rete (K := K) ?g1 rfl (Ex.refl H) hk
  refine er_cb (K := K) (ds := [.n (vis (cellsM a))]) (era_cons (Er.to (c_lcE (K := K) (z := a) (vs := [1, 2]) (fun p => !decide (p.1 = 45)) (fun p => .int ((p.2 : Nat) : Int)) ?g2 (by omega) (fun _ _ => rfl) ?g3 ?g4) ?g5) era_nil) rc_tupN
  case g2 => walk_at "era"
  case g3 =>
    intro i c H1 e h1
    refine' Et.to (K := K) ?g6 ?g7
    case g6 => walk_at "et"
    simp
  case g4 =>
    intro i c H1 e h1 _
    walk_at "er"
  case g5 => rw [vis, cellsM, List.map_map]; rfl

abbrev s_is_name : Stmt := topS 30
theorem sc_is_name : FnScope ["value", "sign"] ["value"] (defScope s_is_name) := ⟨rfl, rfl, rfl, by decide +kernel, rfl, by decide +kernel, by decide +kernel⟩

def nameSign (c : Nat) : Bool := decide (c ∈ letters) || decide (c ∈ digits)
def nameOk (l : List Nat) : Bool := (decide (1 ≤ l.length) && decide (l.length ≤ 8)) && (decide (l.getD 0 0 ∈ letters) && l.all nameSign)
abbrev sp_is_name (K : PySem.W.Frag) : Sp := spR K (fun a : List Nat => a.length ≤ 1000) (fun a => [.s (S a)]) fun a => .b (nameOk a)
theorem has_is_name (T : Txt K mg) (h : At K mg "is_name" s_is_name ["value"]) : Has P w K mg base 1 "is_name" ["value"] (sp_is_name K) := by
  refine h.hasR sc_is_name (fun _ => rfl) fun f cdv A outer s H a vs Q E hr hp hv hk => ?_
  replace hp : a.length ≤ 1000 := hp
  rcases hv with _ | ⟨rfl, _ | _⟩
  have sc := sc_is_name
  obtain ⟨_, gc_LETTERS⟩ := T.g_LETTERS
  obtain ⟨_, gc_DIGITS⟩ := T.g_DIGITS
  obtain ⟨_, gc_LONGEST_NAME⟩ := T.g_LONGEST_NAME
  refine ⟨_, (pss_cons (ps_if (pt_not (pt_val (pe_callB (cr_isi_k (K := K)) (by rfl) T.b_isinstance (by decide +kernel) (pa_cons (pv 0) (pa_cons (pe_bltn (v := .ty "str") (by rfl) T.b_str (by decide +kernel) rfl) pa_nil))))) (pss_one (ps_ret pe_bl)) pss_nil)
    (pss_cons (ps_if (pt_not (pt_chain op_le op_le pe_int (pe_callB cr_lenStr (by rfl) T.b_len (by decide +kernel) (pa_cons (pv 0) pa_nil)) (pe_glob (v := .int 8) rfl gc_LONGEST_NAME ⟨_, rfl⟩))) (pss_one (ps_ret pe_bl)) pss_nil)
    (pss_one (ps_ret (pe_and (pe_cmpR op_inS (pe_ix ix_str (pv 0) pe_int (fun _ _ => rfl)) (pe_glob (v := .str (S letters)) rfl gc_LETTERS ⟨_, rfl⟩) rfl) (pe_one (pe_callB (cr_all_k (K := K)) (by rfl) T.b_all (by decide +kernel) (pa_cons (pe_lc (own := [("sign", 1)]) (g := gName 1) (by rfl) sc.nd (pi_str (pv 0)) (blkOk_by (N := ["value", "sign"]) (sc := defScope s_is_name) (own := [("sign", 1)]) (by decide +kernel)) (fun _ _ _ _ _ => (pg_name (i := 1) sc.nd rfl (Or.inl rfl))) (fun _ _ _ _ _ => pts_nil) (fun _ _ _ _ _ => (pe_or (pe_cmpR op_inS (pv 1) (pe_glob (v := .str (S letters)) rfl gc_LETTERS ⟨_, rfl⟩) rfl) (pe_one (pe_cmpR op_inS (pv 1) (pe_glob (v := .str (S digits)) rfl gc_DIGITS ⟨_, rfl⟩) rfl))))) pa_nil)))))))), ?_⟩
  refine' a_when (K := K) (b := !true) (et_nt (et2 (er_cb (era_cons (er_v rfl) (era_cons er_c era_nil)) (rc_isi_str (by decide +kernel))))) ?g1 ?g2
  case g1 =>
    intro hb
    cases hb
  case g2 =>
    intro _ H1 e1
    refine' a_when (K := K) (b := !(decide ((1 : Int) ≤ (a.length : Int)) && decide ((a.length : Int) ≤ 8))) (et_nt (et1 (er_chain er_c (er_cb (era_cons (er_v rfl) era_nil) (rc_lenC (z := a) (by omega))) ro_I0 (fun _ => er_c) fun _ => ro_I0))) ?g3 ?g4
    case g3 =>
      intro hb H2 e2
      refine a_rete (K := K) er_c ?_ (e1.trans e2) hk
      have e0 : nameOk a = false := by
        unfold nameOk
        have q : (decide (1 ≤ a.length) && decide (a.length ≤ 8)) = false := by
          simp at hb ⊢
          omega
        rw [q]
        rfl
      show Dd.b false = Dd.b (nameOk a)
      rw [e0]
    case g4 =>
      intro hb H2 e2
      have q : (decide (1 ≤ a.length) && decide (a.length ≤ 8)) = true := by
        simp at hb ⊢
        omega
      have q1 : 1 ≤ a.length := by
        rw [Bool.and_eq_true] at q
        exact of_decide_eq_true q.1
      refine' a_rete (K := K) (er_andV (a := decide (a.getD 0 0 ∈ letters)) (b := (a.map nameSign).all id) (er_op (d1 := .s (S [a.getD 0 0])) (d2 := .s (S letters)) (er_sign (n := 0) (er_v rfl) er_c (by omega) (by omega)) er_c (ro_inS (c := a.getD 0 0))) fun _ => er_cb (era_cons (Er.to (c_lcS' (K := K) (z := a) (vs := [1]) (fun c => V.bl (nameSign c)) (er_v rfl) (by omega) (fun _ => rfl) ?g5) ?g6) era_nil) rc_allBN) ?g7 (e1.trans e2) hk
      case g5 =>
        intro i c H3 e3 hi
        exact er_orV (a := decide (c ∈ letters)) (b := decide (c ∈ digits)) (er_op (d1 := .s (S [c])) (d2 := .s (S letters)) (er_v rfl) er_c (ro_inS (c := c))) fun _ => er_op (d1 := .s (S [c])) (d2 := .s (S digits)) (er_v rfl) er_c (ro_inS (c := c))
      case g6 =>
        show Dd.n (a.map (V.bl ∘ nameSign)) = Dd.n ((a.map nameSign).map V.bl)
        rw [List.map_map]
      show Dd.b (decide (a.getD 0 0 ∈ letters) && (a.map nameSign).all id) = Dd.b (nameOk a)
      unfold nameOk
      rw [q, List.all_map]
      rfl

abbrev s_is_stamp : Stmt := topS 31
theorem sc_is_stamp : FnScope ["value", "size"] ["value", "size"] (defScope s_is_stamp) := ⟨rfl, rfl, rfl, by decide +kernel, rfl, by decide +kernel, by decide +kernel⟩

def stampOk (l : List Nat) (size : Nat) : Bool := layerOk l && (decide ((l.length : Int) = (size : Int)) && decide (0 < ((vis (cellsM l)).length : Int)))
abbrev sp_is_stamp (K : PySem.W.Frag) : Sp := spR K (fun a : List Nat × Nat => a.1.length ≤ 1000) (fun a => [.s (S a.1), .i (a.2 : Int)]) fun a => .b (stampOk a.1 a.2)
theorem has_is_stamp (T : Txt K mg) (h : At K mg "is_stamp" s_is_stamp ["value", "size"]) (C_is_layer : Has P w K mg base 1 "is_layer" ["value"] (sp_is_layer K)) (C_cells_of : Has P w K mg base 1 "cells_of" ["one"] (sp_cells K)) : Has P w K mg base 2 "is_stamp" ["value", "size"] (sp_is_stamp K) := by
  refine h.hasR sc_is_stamp (fun _ => rfl) fun f cdv A outer s H a vs Q E hr hp hv hk => ?_
  obtain ⟨l, size⟩ := a
  replace hp : l.length ≤ 1000 := hp
  rcases hv with _ | ⟨rfl, _ | ⟨rfl, _ | _⟩⟩
  have sc := sc_is_stamp
  refine ⟨_, (pss_one (ps_ret (pe_and (pe_callH C_is_layer (hr.mono (by decide)) (pa_cons (pv 0) pa_nil)) (pe_and (pe_cmpR op_eq (pe_callB cr_lenStr (by rfl) T.b_len (by decide +kernel) (pa_cons (pv 0) pa_nil)) (pv 1) (nomark _)) (pe_one (pe_cmpR op_gt (pe_callB (cr_len_k (K := K)) (by rfl) T.b_len (by decide +kernel) (pa_cons (pe_callH C_cells_of (hr.mono (by decide)) (pa_cons (pv 0) pa_nil)) pa_nil)) pe_int (nomark _))))))), ?_⟩
  exact a_rete (K := K) (er_andV (er_call (K := K) l (era_cons (er_v rfl) era_nil) rfl hp) fun _ => er_andV (er_op (er_cb (era_cons (er_v rfl) era_nil) (rc_lenC (z := l) (by omega))) (er_v rfl) ro_eqI) fun _ => er_op (er_cb (era_cons (er_call (K := K) l (era_cons (er_v rfl) era_nil) rfl hp) era_nil) rc_lenU) er_c ro_I0) rfl (Ex.refl H) hk

abbrev s__law_fits : Stmt := topS 57
theorem sc__law_fits : FnScope ["sheet", "layer"] ["sheet", "layer"] (defScope s__law_fits) := ⟨rfl, rfl, rfl, by decide +kernel, rfl, by decide +kernel, by decide +kernel⟩

def fitsM (sheet layer : List Nat) : Bool := !decide (45 ∈ sheet) && agreeM sheet layer
abbrev sp__law_fits (K : PySem.W.Frag) : Sp := spR K (fun a : List Nat × List Nat => a.1.length = a.2.length ∧ a.1.length ≤ 1000) (fun a => [.s (S a.1), .s (S a.2)]) fun a => .b (fitsM a.1 a.2)
theorem has__law_fits (T : Txt K mg) (h : At K mg "_law_fits" s__law_fits ["sheet", "layer"]) (C__law_agree : Has P w K mg base 1 "_law_agree" ["one", "two"] (sp__law_agree K)) : Has P w K mg base 2 "_law_fits" ["sheet", "layer"] (sp__law_fits K) := by
  refine h.hasR sc__law_fits (fun _ => rfl) fun f cdv A outer s H a vs Q E hr hp hv hk => ?_
  obtain ⟨sheet, layer⟩ := a
  obtain ⟨h1, h2⟩ := hp
  replace h1 : sheet.length = layer.length := h1
  replace h2 : sheet.length ≤ 1000 := h2
  rcases hv with _ | ⟨rfl, _ | ⟨rfl, _ | _⟩⟩
  have sc := sc__law_fits
  refine ⟨_, (pss_one (ps_ret (pe_and (pe_cmpR op_eq (pe_callB cr_lenStr (by rfl) T.b_len (by decide +kernel) (pa_cons (pv 0) pa_nil)) (pe_callB cr_lenStr (by rfl) T.b_len (by decide +kernel) (pa_cons (pv 1) pa_nil)) (nomark _)) (pe_and (pe_cmpR op_notInS (pe_strS [45] (by rfl)) (pv 0) rfl) (pe_one (pe_callH C__law_agree (hr.mono (by decide)) (pa_cons (pv 0) (pa_cons (pv 1) pa_nil)))))))), ?_⟩
  refine a_rete (K := K) (er_andV (a := decide ((sheet.length : Int) = (layer.length : Int))) (b := fitsM sheet layer) (er_op (er_cb (era_cons (er_v rfl) era_nil) (rc_lenC (z := sheet) (by omega))) (er_cb (era_cons (er_v rfl) era_nil) (rc_lenC (z := layer) (by omega))) ro_eqI) fun _ => er_andV (a := !decide (45 ∈ sheet)) (b := agreeM sheet layer) (er_op (d1 := .s (S [45])) (d2 := .s (S sheet)) er_c (er_v rfl) (ro_niS (c := 45))) fun _ => er_call (K := K) (sheet, layer) (era_cons (er_v rfl) (era_cons (er_v rfl) era_nil)) rfl ⟨h1, h2⟩) ?_ (Ex.refl H) hk
  show Dd.b (decide _ && fitsM sheet layer) = Dd.b (fitsM sheet layer)
  rw [h1, decide_eq_true rfl]
  rfl

end
end Mi

set_option maxHeartbeats 4000000
namespace Mi
open PySem PySem.Spec PyProof.Rows L2 Evl
local macro_rules | `(tactic| walk_at "side") => `(tactic| (first | assumption | omega | exact rfl | decide | (simp only [List.length_cons, List.length_nil, List.length_map, List.length_append, List.length_replicate] <;> omega)))
local macro_rules | `(tactic| walk_at "ro") => `(tactic| (first
  | with_reducible exact ro_I0
  | with_reducible exact ro_1018
  | with_reducible exact ro_neC
  | with_reducible exact ro_eqC
  | with_reducible exact ro_neI
  | with_reducible exact ro_eqI
  | with_reducible exact ro_neB
  | with_reducible exact ro_eqB
  | ((with_reducible apply ro_mod); (walk_at "side"))
  | ((with_reducible apply ro_div) <;> (walk_at "side"))
  | ((with_reducible apply ro_divW) <;> (walk_at "side"))
  | with_reducible exact ro_1012
  | with_reducible exact ro_1015
  | ((with_reducible apply ro_mulL) <;> (walk_at "side"))
  | ((with_reducible apply ro_mulR) <;> (walk_at "side"))
  | ((with_reducible apply ro_addC); (walk_at "side"))
  | ((with_reducible apply ro_ixC) <;> (walk_at "side"))
  | ((with_reducible apply ro_ixI) <;> (walk_at "side"))
  | ((with_reducible apply ro_ixIN) <;> (walk_at "side"))
  | ((with_reducible apply ro_ixT2) <;> (walk_at "side"))
  | ((with_reducible apply ro_ixG) <;> (walk_at "side"))
  | ((with_reducible apply ro_eq); exact rfl)
  | ((with_reducible apply ro_ne); exact rfl)
  | with_reducible exact ro_isN
  | with_reducible exact ro_notN
  | with_reducible exact ro_eqL
  | with_reducible exact ro_neL
  | with_reducible exact ro_eqU
  | ((with_reducible apply ro_cat); (walk_at "side"))
  | with_reducible exact ro_inLi
  | with_reducible exact ro_inNi
  | with_reducible exact ro_inUi
  | ((with_reducible apply ro_inL) <;> (walk_at "side"))
  | ((with_reducible apply ro_inN) <;> (walk_at "side"))
  | ((with_reducible apply ro_inU) <;> (walk_at "side"))))
local macro_rules | `(tactic| walk_at "rc") => `(tactic| (first
  | with_reducible exact rc_int
  | with_reducible exact rc_intB
  | with_reducible exact rc_max2
  | ((with_reducible apply rc_lenC); (walk_at "side"))
  | with_reducible exact rc_lenI
  | with_reducible exact rc_lenT
  | with_reducible exact rc_lenIN
  | with_reducible exact rc_lenTN
  | with_reducible exact rc_lenL
  | with_reducible exact rc_lenN
  | with_reducible exact rc_lenU
  | with_reducible exact rc_listL
  | with_reducible exact rc_listU
  | with_reducible exact rc_tupL
  | with_reducible exact rc_tupN
  | ((with_reducible apply rc_isi_int); decide +kernel)
  | ((with_reducible apply rc_isi_str); decide +kernel)
  | ((with_reducible apply rc_isi_bl); decide +kernel)
  | ((with_reducible apply rc_isi_non); decide +kernel)
  | ((with_reducible apply rc_isi_u); decide +kernel)
  | ((with_reducible apply rc_isi_l); decide +kernel)))
local macro_rules | `(tactic| walk_at "er") => `(tactic| (first
  | ((with_reducible apply er_var); (exact rfl); assumption)
  | ((with_reducible apply er_v); exact rfl)
  | with_reducible exact er_c
  | ((with_reducible apply er_pick); (walk_at "er"); (walk_at "er"); (walk_at "er"))
  | ((with_reducible apply er_op); (walk_at "er"); (walk_at "er"); (walk_at "ro"))
  | ((with_reducible apply er_cb); (walk_at "era"); (walk_at "rc"))
  | ((with_reducible apply er_lst'); (walk_at "era"); (exact rfl); (walk_at "side"))
  | ((with_reducible apply er_tup'); (walk_at "era"); (exact rfl); (walk_at "side"))
  | ((with_reducible apply er_notV); (walk_at "er"))
  | ((with_reducible apply er_andV); (walk_at "er"); (intro _; (walk_at "er")))
  | ((with_reducible apply er_orV); (walk_at "er"); (intro _; (walk_at "er")))
  | ((with_reducible apply er_ite); (walk_at "et"); (intro _; (walk_at "er")); (intro _; (walk_at "er")))))
local macro_rules | `(tactic| walk_at "era") => `(tactic| (first
  | with_reducible exact era_nil
  | ((with_reducible apply era_cons); (walk_at "er"); (walk_at "era"))))
local macro_rules | `(tactic| walk_at "et") => `(tactic| (first
  | ((with_reducible apply et_an); (walk_at "et"); (intro _; (walk_at "et")))
  | ((with_reducible apply et_orr); (walk_at "et"); (intro _; (walk_at "et")))
  | ((with_reducible apply et_nt); (walk_at "et"))
  | ((with_reducible apply et1); (walk_at "er"))
  | ((with_reducible apply et2); (walk_at "er"))))

section
variable {P : Program} {w : World} {K : PySem.W.Frag} {mg : Str → Option Value} {base : Heap}

abbrev s__law_layer_of : Stmt := topS 56
theorem sc__law_layer_of : FnScope ["stamps", "name", "pair"] ["stamps", "name"] (defScope s__law_layer_of) := ⟨rfl, rfl, rfl, by decide +kernel, rfl, by decide +kernel, by decide +kernel⟩

def findM (st : List (List Nat × List Nat)) (n : List Nat) : V := match st.find? (fun p => decide (p.1 = n)) with
  | some p => .str (S p.2)
  | none => .non
abbrev sp__law_layer_of (K : PySem.W.Frag) : Sp := spR K (fun _ : List (List Nat × List Nat) × List Nat => True) (fun a => [.L (stD a.1), .s (S a.2)]) fun a => .v (findM a.1 a.2)
theorem has__law_layer_of (T : Txt K mg) (h : At K mg "_law_layer_of" s__law_layer_of ["stamps", "name"]) : Has P w K mg base 1 "_law_layer_of" ["stamps", "name"] (sp__law_layer_of K) := by
  refine h.hasR sc__law_layer_of (fun _ => rfl) fun f cdv A outer s H a vs Q E hr hp hv hk => ?_
  obtain ⟨st, n⟩ := a
  rcases hv with _ | ⟨hs, _ | ⟨rfl, _ | _⟩⟩
  rename_i vst
  have sc := sc__law_layer_of
  refine ⟨_, (pss_cons (ps_for PassesOwn.never rfl (pi_list_k (K := K) (pv 0)) (pg_name (i := 2) sc.nd rfl (Or.inl rfl)) (pss_one (ps_if (pt_cmpR op_eq (pe_ix (ix_list_k (K := K)) (pv 2) pe_int (fun _ _ => rfl)) (pv 1) (nomark _)) (pss_one (ps_ret (pe_ix (ix_list_k (K := K)) (pv 2) pe_int (fun _ _ => rfl)))) pss_nil)))
    (pss_one (ps_ret pe_non))), ?_⟩
  refine b_for (K := K) (G := H) (ds := stD st) (if_list (ef_var rfl hs)) (Ex.refl H) (fun i σ' G' A' => ∃ y, σ' = [some vst, some (.str (S n)), y] ∧ Ex H A' ∧ (st.take i).find? (fun p => decide (p.1 = n)) = none) (fun G1 A1 s1 => ⟨none, rfl, s1.a, rfl⟩) ?_ ?_
  · rintro G1 e1 i d v σ' G' A' G2 A2 hd ⟨y, rfl, ea, hn⟩ eg ev s2 hv2
    obtain ⟨p, hp1, rfl⟩ := stD_of hd
    have hvp : Is K A2 (.L [.s (S p.1), .s (S p.2)]) v := hv2.mono s2.v
    have hnx : (st.take (i + 1)).find? (fun p => decide (p.1 = n)) = if decide (p.1 = n) = true then some p else none := by
      rw [List.take_add_one, hp1, List.find?_append, hn]
      simp [List.find?_cons]
      split <;> simp_all
    refine' a_when1 (K := K) (b := decide (p.1 = n)) (et1 (er_op (er_place (i := 0) (er_var rfl hvp) er_c rfl) (er_v rfl) ro_eqC)) ?g1 ?g2
    case g1 =>
      intro hb A3 e3
      refine a_rete (K := K) (er_place (i := 1) (er_var rfl (hvp.mono e3)) er_c rfl) ?_ ((ea.trans s2.a).trans e3) hk
      have q : st.find? (fun p => decide (p.1 = n)) = some p := by
        rw [if_pos hb] at hnx
        have e5 : st = st.take (i + 1) ++ st.drop (i + 1) := (List.take_append_drop _ _).symm
        rw [e5, List.find?_append, hnx]
        rfl
      show Dd.v (V.str (S p.2)) = Dd.v (findM st n)
      unfold findM
      rw [q]
    case g2 =>
      intro hb A3 e3
      rw [if_neg (by rw [hb]; exact Bool.false_ne_true)] at hnx
      exact ⟨G2, ⟨_, rfl, (ea.trans s2.a).trans e3, hnx⟩, eg.trans s2.g, s2.v.trans e3⟩
  · rintro σ' G' A' eg ev ⟨y, rfl, ea, hn⟩
    rw [stD_len, List.take_length] at hn
    refine a_rete (K := K) er_c ?_ ea hk
    show Dd.v V.non = Dd.v (findM st n)
    unfold findM
    rw [hn]
end
end Mi

set_option maxHeartbeats 4000000
namespace Mi
open PySem PySem.Spec PyProof.Rows L2 Evl
local macro_rules | `(tactic| walk_at "side") => `(tactic| (first | assumption | omega | exact rfl | decide | (simp only [List.length_cons, List.length_nil, List.length_map, List.length_append, List.length_replicate] <;> omega)))
local macro_rules | `(tactic| walk_at "ro") => `(tactic| (first
  | with_reducible exact ro_I0
  | with_reducible exact ro_1018
  | with_reducible exact ro_neC
  | with_reducible exact ro_eqC
  | with_reducible exact ro_neI
  | with_reducible exact ro_eqI
  | with_reducible exact ro_neB
  | with_reducible exact ro_eqB
  | ((with_reducible apply ro_mod); (walk_at "side"))
  | ((with_reducible apply ro_div) <;> (walk_at "side"))
  | ((with_reducible apply ro_divW) <;> (walk_at "side"))
  | with_reducible exact ro_1012
  | with_reducible exact ro_1015
  | ((with_reducible apply ro_mulL) <;> (walk_at "side"))
  | ((with_reducible apply ro_mulR) <;> (walk_at "side"))
  | ((with_reducible apply ro_addC); (walk_at "side"))
  | ((with_reducible apply ro_ixC) <;> (walk_at "side"))
  | ((with_reducible apply ro_ixI) <;> (walk_at "side"))
  | ((with_reducible apply ro_ixIN) <;> (walk_at "side"))
  | ((with_reducible apply ro_ixT2) <;> (walk_at "side"))
  | ((with_reducible apply ro_ixG) <;> (walk_at "side"))
  | ((with_reducible apply ro_eq); exact rfl)
  | ((with_reducible apply ro_ne); exact rfl)
  | with_reducible exact ro_isN
  | with_reducible exact ro_notN
  | with_reducible exact ro_eqL
  | with_reducible exact ro_neL
  | with_reducible exact ro_eqU
  | ((with_reducible apply ro_cat); (walk_at "side"))
  | with_reducible exact ro_inLi
  | with_reducible exact ro_inNi
  | with_reducible exact ro_inUi
  | ((with_reducible apply ro_inL) <;> (walk_at "side"))
  | ((with_reducible apply ro_inN) <;> (walk_at "side"))
  | ((with_reducible apply ro_inU) <;> (walk_at "side"))))
local macro_rules | `(tactic| walk_at "rc") => `(tactic| (first
  | with_reducible exact rc_int
  | with_reducible exact rc_intB
  | with_reducible exact rc_max2
  | ((with_reducible apply rc_lenC); (walk_at "side"))
  | with_reducible exact rc_lenI
  | with_reducible exact rc_lenT
  | with_reducible exact rc_lenIN
  | with_reducible exact rc_lenTN
  | with_reducible exact rc_lenL
  | with_reducible exact rc_lenN
  | with_reducible exact rc_lenU
  | with_reducible exact rc_listL
  | with_reducible exact rc_listU
  | with_reducible exact rc_tupL
  | with_reducible exact rc_tupN
  | ((with_reducible apply rc_isi_int); decide +kernel)
  | ((with_reducible apply rc_isi_str); decide +kernel)
  | ((with_reducible apply rc_isi_bl); decide +kernel)
  | ((with_reducible apply rc_isi_non); decide +kernel)
  | ((with_reducible apply rc_isi_u); decide +kernel)
  | ((with_reducible apply rc_isi_l); decide +kernel)))
local macro_rules | `(tactic| walk_at "er") => `(tactic| (first
  | ((with_reducible apply er_var); (exact rfl); assumption)
  | ((with_reducible apply er_v); exact rfl)
  | with_reducible exact er_c
  | ((with_reducible apply er_pick); (walk_at "er"); (walk_at "er"); (walk_at "er"))
  | ((with_reducible apply er_op); (walk_at "er"); (walk_at "er"); (walk_at "ro"))
  | ((with_reducible apply er_cb); (walk_at "era"); (walk_at "rc"))
  | ((with_reducible apply er_lst'); (walk_at "era"); (exact rfl); (walk_at "side"))
  | ((with_reducible apply er_tup'); (walk_at "era"); (exact rfl); (walk_at "side"))
  | ((with_reducible apply er_notV); (walk_at "er"))
  | ((with_reducible apply er_andV); (walk_at "er"); (intro _; (walk_at "er")))
  | ((with_reducible apply er_orV); (walk_at "er"); (intro _; (walk_at "er")))
  | ((with_reducible apply er_ite); (walk_at "et"); (intro _; (walk_at "er")); (intro _; (walk_at "er")))))
local macro_rules | `(tactic| walk_at "era") => `(tactic| (first
  | with_reducible exact era_nil
  | ((with_reducible apply era_cons); (walk_at "er"); (walk_at "era"))))
local macro_rules | `(tactic| walk_at "et") => `(tactic| (first
  | ((with_reducible apply et_an); (walk_at "et"); (intro _; (walk_at "et")))
  | ((with_reducible apply et_orr); (walk_at "et"); (intro _; (walk_at "et")))
  | ((with_reducible apply et_nt); (walk_at "et"))
  | ((with_reducible apply et1); (walk_at "er"))
  | ((with_reducible apply et2); (walk_at "er"))))

section
variable {P : Program} {w : World} {K : PySem.W.Frag} {mg : Str → Option Value} {base : Heap}

def szLot : List Int := [16, 16, 4, 27, 26, 25, 3, 2, 8, 6, 26] ++ List.replicate 7 36 ++ [8, 25, 19, 8, 27]
theorem szLot_few : szLot.length ≤ 1000 := by decide
theorem szLot_bd : ∀ s ∈ szLot, 0 < s ∧ s < 1000000 := by decide
theorem szLot_pos : ∀ s ∈ szLot, 0 < s := by decide
def sizL (hd : List Int) : List Int := [4, 5, 3, 4, 5, 2, 5, 4, 1, 3, 5, 4, 5, 3, 6 + hd.getD 19 0, 30]
def manL (hd : List Int) : List Int := [4, 5, 3, 5, 4, 2, 5, 3, 1, 4, 5, 4, 3, 0, 6 + hd.getD 20 0, 24]
def minI (i j : Int) : Int := if j < i then j else i
def lotSize (hd : List Int) (widest : Nat) : Nat := (minI (widest : Int) ((sizL hd).getD (hd.getD 0 0).toNat 0)).toNat
def lotMany (hd : List Int) (upto : Nat) : Nat := (minI (upto : Int) ((manL hd).getD (hd.getD 1 0).toNat 0)).toNat
def lotInks (hd : List Int) : List Nat := inksM ((hd.drop 2).take 4)
def lotLast (hd : List Int) : Nat := (lotInks hd).getD (2 * hd.getD 7 0).toNat 0
def menus (ik : List Nat) (last : Nat) : List (List Nat) := [[45, 45, 45, 45, ik.getD 0 0, ik.getD 0 0, ik.getD 1 0, last], [45, 45, 45, 45, 45, ik.getD 0 0, ik.getD 1 0, last], [45, 45, 45, 45, 45, ik.getD 0 0, ik.getD 0 0, ik.getD 1 0], [45, 45, 45, 45, 45, 45, ik.getD 0 0, last]]
def maxI (i j : Int) : Int := if j > i then j else i
def lotMenu (hd : List Int) (size : Nat) : List Nat := (menus (lotInks hd) (lotLast hd)).getD (maxI (hd.getD 6 0) (3 * (if 5 < (size : Int) then 1 else 0))).toNat []
def freeMenu (hd : List Int) (k : Nat) : List Nat := [45, 45, 45, 45, 45] ++ (List.range 3).map fun j : Nat => alls.getD ((hd.getD 22 0 + 3 * (k : Int) + (j : Int)) % 27).toNat 0
def menuAt (hd : List Int) (size k : Nat) : List Nat := if hd.getD 21 0 = 0 then freeMenu hd k else lotMenu hd size
def lotPair (ns : List Int) (at_ : Nat) (hd : List Int) (size many k : Nat) : List Nat × List Nat := (nameM (hd.drop 9) many k, txtM (menuAt hd size k) (digM (cellM ns (at_ + 1 + k)) (List.replicate size 8)) size)
def lotRow (ns : List Int) (at_ : Nat) (hd : List Int) (size many : Nat) : List (List Nat × List Nat) := (List.range many).map (lotPair ns at_ hd size many)
def lotAll (ns : List Int) (at_ : Nat) (hd : List Int) (size many : Nat) : List (List Nat × List Nat) := if hd.getD 8 0 = 0 ∧ 1 < many then (lotRow ns at_ hd size many).set (many - 1) (nameM (hd.drop 9) many (many - 1), ((lotRow ns at_ hd size many).getD 0 ([], [])).2) else lotRow ns at_ hd size many
def headM (ns : List Int) (at_ : Nat) : List Int := digM (cellM ns at_) szLot
def lotD (ns : List Int) (at_ upto widest : Nat) : Dd := .L [.i (lotSize (headM ns at_) widest : Int), .s (S (lotInks (headM ns at_))), .L (stD (lotAll ns at_ (headM ns at_) (lotSize (headM ns at_) widest) (lotMany (headM ns at_) upto)))]
structure HeadOk (hd : List Int) : Prop where
  len : hd.length = 23
  b0 : 0 ≤ hd.getD 0 0 ∧ hd.getD 0 0 < 16
  b1 : 0 ≤ hd.getD 1 0 ∧ hd.getD 1 0 < 16
  b3 : 0 ≤ hd.getD 3 0 ∧ hd.getD 3 0 < 27
  b6 : 0 ≤ hd.getD 6 0 ∧ hd.getD 6 0 < 3
  b7 : 0 ≤ hd.getD 7 0 ∧ hd.getD 7 0 < 2
  b19 : 0 ≤ hd.getD 19 0 ∧ hd.getD 19 0 < 25
  b20 : 0 ≤ hd.getD 20 0 ∧ hd.getD 20 0 < 19
theorem headM_ok (ns : List Int) (at_ : Nat) : HeadOk (headM ns at_) :=
  ⟨by unfold headM; rw [digM_len]; rfl, digM_bd szLot_pos (i := 0) (by decide), digM_bd szLot_pos (i := 1) (by decide), digM_bd szLot_pos (i := 3) (by decide), digM_bd szLot_pos (i := 6) (by decide), digM_bd szLot_pos (i := 7) (by decide), digM_bd szLot_pos (i := 19) (by decide), digM_bd szLot_pos (i := 20) (by decide)⟩
theorem sizL_bd {hd : List Int} (h : HeadOk hd) : ∀ j : Nat, j < 16 → 1 ≤ (sizL hd).getD j 0 ∧ (sizL hd).getD j 0 ≤ 30 := by
  have h19 := h.b19
  intro j hj
  have hm := getD_memL (l := sizL hd) (z := 0) (k := j) hj
  generalize (sizL hd).getD j 0 = y at hm ⊢
  unfold sizL at hm
  generalize hd.getD 19 0 = x at h19 hm
  simp only [List.mem_cons, List.not_mem_nil, or_false] at hm
  omega
theorem manL_bd {hd : List Int} (h : HeadOk hd) : ∀ j : Nat, j < 16 → 0 ≤ (manL hd).getD j 0 ∧ (manL hd).getD j 0 ≤ 24 := by
  have h20 := h.b20
  intro j hj
  have hm := getD_memL (l := manL hd) (z := 0) (k := j) hj
  generalize (manL hd).getD j 0 = y at hm ⊢
  unfold manL at hm
  generalize hd.getD 20 0 = x at h20 hm
  simp only [List.mem_cons, List.not_mem_nil, or_false] at hm
  omega
theorem lotSize_is {hd : List Int} (h : HeadOk hd) {widest : Nat} (hw : 1 ≤ widest) : ((lotSize hd widest : Nat) : Int) = minI (widest : Int) ((sizL hd).getD (hd.getD 0 0).toNat 0) ∧ 1 ≤ lotSize hd widest ∧ lotSize hd widest ≤ 30 ∧ lotSize hd widest ≤ widest := by
  have q := sizL_bd h (hd.getD 0 0).toNat (by have := h.b0; omega)
  unfold lotSize minI
  split <;> omega
theorem lotMany_is {hd : List Int} (h : HeadOk hd) {upto : Nat} : ((lotMany hd upto : Nat) : Int) = minI (upto : Int) ((manL hd).getD (hd.getD 1 0).toNat 0) ∧ lotMany hd upto ≤ 24 ∧ lotMany hd upto ≤ upto := by
  have q := manL_bd h (hd.getD 1 0).toNat (by have := h.b1; omega)
  unfold lotMany minI
  split <;> omega
theorem menuAt_len {hd : List Int} (h : HeadOk hd) (size k : Nat) : (menuAt hd size k).length = 8 := by
  unfold menuAt
  split
  · simp [freeMenu]
  · have q : (maxI (hd.getD 6 0) (3 * (if 5 < (size : Int) then 1 else 0))).toNat < 4 := by
      have := h.b6
      unfold maxI
      split <;> split <;> omega
    unfold lotMenu
    generalize (maxI (hd.getD 6 0) (3 * (if 5 < (size : Int) then 1 else 0))).toNat = j at q
    rcases j with _ | _ | _ | _ | j
    · rfl
    · rfl
    · rfl
    · rfl
    · omega
end
end Mi

set_option maxHeartbeats 4000000
namespace Mi
open PySem PySem.Spec PyProof.Rows L2 Evl
local macro_rules | `(tactic| walk_at "side") => `(tactic| (first | assumption | omega | exact rfl | decide | (simp only [List.length_cons, List.length_nil, List.length_map, List.length_append, List.length_replicate] <;> omega)))
local macro_rules | `(tactic| walk_at "ro") => `(tactic| (first
  | with_reducible exact ro_I0
  | with_reducible exact ro_1018
  | with_reducible exact ro_neC
  | with_reducible exact ro_eqC
  | with_reducible exact ro_neI
  | with_reducible exact ro_eqI
  | with_reducible exact ro_neB
  | with_reducible exact ro_eqB
  | ((with_reducible apply ro_mod); (walk_at "side"))
  | ((with_reducible apply ro_div) <;> (walk_at "side"))
  | ((with_reducible apply ro_divW) <;> (walk_at "side"))
  | with_reducible exact ro_1012
  | with_reducible exact ro_1015
  | ((with_reducible apply ro_mulL) <;> (walk_at "side"))
  | ((with_reducible apply ro_mulR) <;> (walk_at "side"))
  | ((with_reducible apply ro_addC); (walk_at "side"))
  | ((with_reducible apply ro_ixC) <;> (walk_at "side"))
  | ((with_reducible apply ro_ixI) <;> (walk_at "side"))
  | ((with_reducible apply ro_ixIN) <;> (walk_at "side"))
  | ((with_reducible apply ro_ixT2) <;> (walk_at "side"))
  | ((with_reducible apply ro_ixG) <;> (walk_at "side"))
  | ((with_reducible apply ro_eq); exact rfl)
  | ((with_reducible apply ro_ne); exact rfl)
  | with_reducible exact ro_isN
  | with_reducible exact ro_notN
  | with_reducible exact ro_eqL
  | with_reducible exact ro_neL
  | with_reducible exact ro_eqU
  | ((with_reducible apply ro_cat); (walk_at "side"))
  | with_reducible exact ro_inLi
  | with_reducible exact ro_inNi
  | with_reducible exact ro_inUi
  | ((with_reducible apply ro_inL) <;> (walk_at "side"))
  | ((with_reducible apply ro_inN) <;> (walk_at "side"))
  | ((with_reducible apply ro_inU) <;> (walk_at "side"))))
local macro_rules | `(tactic| walk_at "rc") => `(tactic| (first
  | with_reducible exact rc_int
  | with_reducible exact rc_intB
  | with_reducible exact rc_max2
  | ((with_reducible apply rc_lenC); (walk_at "side"))
  | with_reducible exact rc_lenI
  | with_reducible exact rc_lenT
  | with_reducible exact rc_lenIN
  | with_reducible exact rc_lenTN
  | with_reducible exact rc_lenL
  | with_reducible exact rc_lenN
  | with_reducible exact rc_lenU
  | with_reducible exact rc_listL
  | with_reducible exact rc_listU
  | with_reducible exact rc_tupL
  | with_reducible exact rc_tupN
  | ((with_reducible apply rc_isi_int); decide +kernel)
  | ((with_reducible apply rc_isi_str); decide +kernel)
  | ((with_reducible apply rc_isi_bl); decide +kernel)
  | ((with_reducible apply rc_isi_non); decide +kernel)
  | ((with_reducible apply rc_isi_u); decide +kernel)
  | ((with_reducible apply rc_isi_l); decide +kernel)))
local macro_rules | `(tactic| walk_at "er") => `(tactic| (first
  | ((with_reducible apply er_var); (exact rfl); assumption)
  | ((with_reducible apply er_v); exact rfl)
  | with_reducible exact er_c
  | ((with_reducible apply er_pick); (walk_at "er"); (walk_at "er"); (walk_at "er"))
  | ((with_reducible apply er_op); (walk_at "er"); (walk_at "er"); (walk_at "ro"))
  | ((with_reducible apply er_cb); (walk_at "era"); (walk_at "rc"))
  | ((with_reducible apply er_lst'); (walk_at "era"); (exact rfl); (walk_at "side"))
  | ((with_reducible apply er_tup'); (walk_at "era"); (exact rfl); (walk_at "side"))
  | ((with_reducible apply er_notV); (walk_at "er"))
  | ((with_reducible apply er_andV); (walk_at "er"); (intro _; (walk_at "er")))
  | ((with_reducible apply er_orV); (walk_at "er"); (intro _; (walk_at "er")))
  | ((with_reducible apply er_ite); (walk_at "et"); (intro _; (walk_at "er")); (intro _; (walk_at "er")))))
local macro_rules | `(tactic| walk_at "era") => `(tactic| (first
  | with_reducible exact era_nil
  | ((with_reducible apply era_cons); (walk_at "er"); (walk_at "era"))))
local macro_rules | `(tactic| walk_at "et") => `(tactic| (first
  | ((with_reducible apply et_an); (walk_at "et"); (intro _; (walk_at "et")))
  | ((with_reducible apply et_orr); (walk_at "et"); (intro _; (walk_at "et")))
  | ((with_reducible apply et_nt); (walk_at "et"))
  | ((with_reducible apply et1); (walk_at "er"))
  | ((with_reducible apply et2); (walk_at "er"))))

section
variable {P : Program} {w : World} {K : PySem.W.Frag} {mg : Str → Option Value} {base : Heap}

abbrev sp__law_lot (K : PySem.W.Frag) : Sp := spR K (fun a : List Int × Nat × Nat × Nat => a.1.length ≤ 63 ∧ a.2.1 ≤ 500 ∧ a.2.2.1 ≤ 1000 ∧ 1 ≤ a.2.2.2 ∧ a.2.2.2 ≤ 1000) (fun a => [.l (vis a.1), .i (a.2.1 : Int), .i (a.2.2.1 : Int), .i (a.2.2.2 : Int)]) fun a => lotD a.1 a.2.1 a.2.2.1 a.2.2.2
abbrev s__law_lot : Stmt := topS 47
theorem sc__law_lot : FnScope ["script", "at", "upto", "widest", "head", "alls", "size", "many", "inks", "last", "menu", "names", "stamps", "k", "j"] ["script", "at", "upto", "widest"] (defScope s__law_lot) := ⟨rfl, rfl, rfl, by decide +kernel, rfl, by decide +kernel, by decide +kernel⟩

theorem has__law_lot (T : Txt K mg) (h : At K mg "_law_lot" s__law_lot ["script", "at", "upto", "widest"]) (C__law_cell : Has P w K mg base 1 "_law_cell" ["script", "k"] (sp__law_cell K)) (C__law_digits : Has P w K mg base 1 "_law_digits" ["cell", "sizes"] (sp__law_digits K)) (C__law_inks : Has P w K mg base 1 "_law_inks" ["line"] (sp__law_inks K)) (C__law_names : Has P w K mg base 1 "_law_names" ["line", "many"] (sp__law_names K)) (C__law_text : Has P w K mg base 1 "_law_text" ["menu", "line", "size"] (sp__law_text K)) : Has P w K mg base 2 "_law_lot" ["script", "at", "upto", "widest"] (sp__law_lot K) := by
  refine h.hasR sc__law_lot (fun _ => rfl) fun f cdv A outer s H a vs Q E hr hp hv hk => ?_
  obtain ⟨ns, at_, upto, widest⟩ := a
  obtain ⟨h1, h2, h3, h4, h5⟩ := hp
  replace h1 : ns.length ≤ 63 := h1
  replace h2 : at_ ≤ 500 := h2
  replace h3 : upto ≤ 1000 := h3
  replace h4 : 1 ≤ widest := h4
  replace h5 : widest ≤ 1000 := h5
  rcases hv with _ | ⟨⟨p, rfl, hS⟩, _ | ⟨rfl, _ | ⟨rfl, _ | ⟨rfl, _ | _⟩⟩⟩⟩
  have hs : Is K H (.l (vis ns)) (.ref p) := ⟨p, rfl, hS⟩
  have sc := sc__law_lot
  have hok := headM_ok ns at_
  have lal : alls.length = 27 := rfl
  refine ⟨_, (pss_cons (ps_set (i := 4) sc.nd rfl (Or.inr rfl) (pe_callH C__law_digits (hr.mono (by decide)) (pa_cons (pe_callH C__law_cell (hr.mono (by decide)) (pa_cons (pv 0) (pa_cons (pv 1) pa_nil))) (pa_cons (pe_op op_cat (pe_op op_cat (pe_lst (pa_cons pe_int (pa_cons pe_int (pa_cons pe_int (pa_cons pe_int (pa_cons pe_int (pa_cons pe_int (pa_cons pe_int (pa_cons pe_int (pa_cons pe_int (pa_cons pe_int (pa_cons pe_int pa_nil)))))))))))) (pe_op op_rep (pe_lst (pa_cons pe_int pa_nil)) pe_int)) (pe_lst (pa_cons pe_int (pa_cons pe_int (pa_cons pe_int (pa_cons pe_int (pa_cons pe_int pa_nil))))))) pa_nil))))
    (pss_cons (ps_set (i := 5) sc.nd rfl (Or.inr rfl) (pe_strS [46, 97, 98, 99, 100, 101, 102, 103, 104, 105, 106, 107, 108, 109, 110, 111, 112, 113, 114, 115, 116, 117, 118, 119, 120, 121, 122] (by rfl)))
    (pss_cons (ps_set (i := 6) sc.nd rfl (Or.inl rfl) (pe_callB cr_min2' (by rfl) T.b_min (by decide +kernel) (pa_cons (pv 3) (pa_cons (pe_ix (ix_list_k (K := K)) (pe_lst (pa_cons pe_int (pa_cons pe_int (pa_cons pe_int (pa_cons pe_int (pa_cons pe_int (pa_cons pe_int (pa_cons pe_int (pa_cons pe_int (pa_cons pe_int (pa_cons pe_int (pa_cons pe_int (pa_cons pe_int (pa_cons pe_int (pa_cons pe_int (pa_cons (pe_op op_add pe_int (pe_ix (ix_list_k (K := K)) (pv 4) pe_int (fun _ _ => rfl))) (pa_cons pe_int pa_nil))))))))))))))))) (pe_ix (ix_list_k (K := K)) (pv 4) pe_int (fun _ _ => rfl)) (fun _ _ => rfl)) pa_nil))))
    (pss_cons (ps_set (i := 7) sc.nd rfl (Or.inl rfl) (pe_callB cr_min2' (by rfl) T.b_min (by decide +kernel) (pa_cons (pv 2) (pa_cons (pe_ix (ix_list_k (K := K)) (pe_lst (pa_cons pe_int (pa_cons pe_int (pa_cons pe_int (pa_cons pe_int (pa_cons pe_int (pa_cons pe_int (pa_cons pe_int (pa_cons pe_int (pa_cons pe_int (pa_cons pe_int (pa_cons pe_int (pa_cons pe_int (pa_cons pe_int (pa_cons pe_int (pa_cons (pe_op op_add pe_int (pe_ix (ix_list_k (K := K)) (pv 4) pe_int (fun _ _ => rfl))) (pa_cons pe_int pa_nil))))))))))))))))) (pe_ix (ix_list_k (K := K)) (pv 4) pe_int (fun _ _ => rfl)) (fun _ _ => rfl)) pa_nil))))
    (pss_cons (ps_set (i := 8) sc.nd rfl (Or.inl rfl) (pe_callH C__law_inks (hr.mono (by decide)) (pa_cons (pe_slice (sl_list_k (K := K)) (pv 4) (po_some pe_int) (po_some pe_int)) pa_nil)))
    (pss_cons (ps_set (i := 9) sc.nd rfl (Or.inl rfl) (pe_ix ix_str (pv 8) (pe_op op_mul pe_int (pe_callTy cr_int (by rfl) T.b_int (by decide +kernel) (pa_cons (pe_ix (ix_list_k (K := K)) (pv 4) pe_int (fun _ _ => rfl)) pa_nil))) (fun _ _ => rfl)))
    (pss_cons (ps_set (i := 10) sc.nd rfl (Or.inl rfl) (pe_ix (ix_list_k (K := K)) (pe_lst (pa_cons (pe_op op_addS (pe_op op_addS (pe_op op_addS (pe_op op_addS (pe_strS [45, 45, 45, 45] (by rfl)) (pe_ix ix_str (pv 8) pe_int (fun _ _ => rfl))) (pe_ix ix_str (pv 8) pe_int (fun _ _ => rfl))) (pe_ix ix_str (pv 8) pe_int (fun _ _ => rfl))) (pv 9)) (pa_cons (pe_op op_addS (pe_op op_addS (pe_op op_addS (pe_strS [45, 45, 45, 45, 45] (by rfl)) (pe_ix ix_str (pv 8) pe_int (fun _ _ => rfl))) (pe_ix ix_str (pv 8) pe_int (fun _ _ => rfl))) (pv 9)) (pa_cons (pe_op op_addS (pe_op op_addS (pe_op op_addS (pe_strS [45, 45, 45, 45, 45] (by rfl)) (pe_ix ix_str (pv 8) pe_int (fun _ _ => rfl))) (pe_ix ix_str (pv 8) pe_int (fun _ _ => rfl))) (pe_ix ix_str (pv 8) pe_int (fun _ _ => rfl))) (pa_cons (pe_op op_addS (pe_op op_addS (pe_strS [45, 45, 45, 45, 45, 45] (by rfl)) (pe_ix ix_str (pv 8) pe_int (fun _ _ => rfl))) (pv 9)) pa_nil))))) (pe_callB cr_max2 (by rfl) T.b_max (by decide +kernel) (pa_cons (pe_callTy cr_int (by rfl) T.b_int (by decide +kernel) (pa_cons (pe_ix (ix_list_k (K := K)) (pv 4) pe_int (fun _ _ => rfl)) pa_nil)) (pa_cons (pe_op op_mul pe_int (pe_callTy cr_int (by rfl) T.b_int (by decide +kernel) (pa_cons (pe_cmpR op_gt (pv 6) pe_int (nomark _)) pa_nil))) pa_nil))) (fun _ _ => rfl)))
    (pss_cons (ps_set (i := 11) sc.nd rfl (Or.inl rfl) (pe_callH C__law_names (hr.mono (by decide)) (pa_cons (pe_slice (sl_list_k (K := K)) (pv 4) (po_some pe_int) po_none) (pa_cons (pv 7) pa_nil))))
    (pss_cons (ps_set (i := 12) sc.nd rfl (Or.inl rfl) (pe_lst pa_nil))
    (pss_cons (ps_for PassesOwn.never rfl (pi_range1 (by rfl) T.b_range (pa_cons (pv 7) pa_nil)) (pg_name (i := 13) sc.nd rfl (Or.inr rfl)) (pss_cons (ps_if (pt_cmpR op_eq (pe_ix (ix_list_k (K := K)) (pv 4) pe_int (fun _ _ => rfl)) pe_int (nomark _)) (pss_one (ps_set (i := 10) sc.nd rfl (Or.inl rfl) (pe_op op_addS (pe_strS [45, 45, 45, 45, 45] (by rfl)) (pe_bm_k (K := K) PySem.F.plainAttrs_str PySem.F.slot_str_join PySem.F.type_str_join (mt_join_k (K := K)) (pe_strS [] (by rfl)) (pa_cons (pe_lc (own := [("j", 14)]) (g := gName 14) (by rfl) sc.nd (pi_range1 (by rfl) T.b_range (pa_cons pe_int pa_nil)) (blkOk_by (N := ["script", "at", "upto", "widest", "head", "alls", "size", "many", "inks", "last", "menu", "names", "stamps", "k", "j"]) (sc := defScope s__law_lot) (own := [("j", 14)]) (by decide +kernel)) (fun _ _ _ _ _ => (pg_name (i := 14) sc.nd rfl (Or.inl rfl))) (fun _ _ _ _ _ => pts_nil) (fun _ _ _ _ _ => (pe_ix ix_str (pv 5) (pe_op op_mod (pe_callTy cr_int (by rfl) T.b_int (by decide +kernel) (pa_cons (pe_op op_add (pe_op op_add (pe_ix (ix_list_k (K := K)) (pv 4) pe_int (fun _ _ => rfl)) (pe_op op_mul pe_int (pv 13))) (pv 14)) pa_nil)) pe_int) (fun _ _ => rfl)))) pa_nil))))) pss_nil)
    (pss_one (ps_expr (pe_bm_k (K := K) PySem.F.plainAttrs_list PySem.F.slot_list_append PySem.F.type_list_append mt_append (pv 12) (pa_cons (pe_lst (pa_cons (pe_ix (ix_list_k (K := K)) (pv 11) (pv 13) (fun _ _ => rfl)) (pa_cons (pe_callH C__law_text (hr.mono (by decide)) (pa_cons (pv 10) (pa_cons (pe_callH C__law_digits (hr.mono (by decide)) (pa_cons (pe_callH C__law_cell (hr.mono (by decide)) (pa_cons (pv 0) (pa_cons (pe_op op_add (pe_op op_add (pv 1) pe_int) (pv 13)) pa_nil))) (pa_cons (pe_op op_rep (pe_lst (pa_cons pe_int pa_nil)) (pv 6)) pa_nil))) (pa_cons (pv 6) pa_nil)))) pa_nil))) pa_nil))))))
    (pss_cons (ps_if (PW.pt (pw_and (pt_cmpR op_eq (pe_ix (ix_list_k (K := K)) (pv 4) pe_int (fun _ _ => rfl)) pe_int (nomark _)) (pw_and1 (pt_cmpR op_gt (pv 7) pe_int (nomark _))))) (pss_one (ps_asg (pe_lst (pa_cons (pe_ix (ix_list_k (K := K)) (pv 11) (pe_op op_sub (pv 7) pe_int) (fun _ _ => rfl)) (pa_cons (pe_ix (ix_list_k (K := K)) (pe_ix (ix_list_k (K := K)) (pv 12) pe_int (fun _ _ => rfl)) pe_int (fun _ _ => rfl)) pa_nil))) (pg_sub (pv 12) (pe_op op_sub (pv 7) pe_int) set_list))) pss_nil)
    (pss_one (ps_ret (pe_lst (pa_cons (pv 6) (pa_cons (pv 8) (pa_cons (pv 12) pa_nil))))))))))))))))), ?_⟩
  have hk : ∀ v H', Ex H H' → Is K H' (lotD ns at_ upto widest) v → Q v H' := hk
  unfold lotD at hk
  -- head
  refine' a_asg (K := K) (d := .n (vis (headM ns at_))) (er_call (K := K) (cellM ns at_, szLot) (era_cons (er_call (K := K) (ns, at_) (era_cons (er_var rfl hs) (era_cons (er_v rfl) era_nil)) rfl ⟨h1, by show at_ ≤ 1000; omega⟩) (era_cons (Er.n2l (Er.to (er_op (er_op (er_lst (vs := vis [16, 16, 4, 27, 26, 25, 3, 2, 8, 6, 26]) ?g1 (by decide)) (er_same (n := 36) (k := 7) er_c (by decide)) (ro_cat (by simp))) (er_lst (vs := vis [8, 25, 19, 8, 27]) ?g2 (by decide)) (ro_cat (by simp))) ?g3)) era_nil)) rfl ⟨szLot_few, szLot_bd⟩) ?g4
  case g1 => repeat (first | exact era_nil | refine era_cons er_c ?_)
  case g2 => repeat (first | exact era_nil | refine era_cons er_c ?_)
  case g3 => rfl
  intro vh H1 e1 hh1
  generalize headM ns at_ = hd at hok hh1 hk
  have hlen := hok.len
  have athd : ∀ {te : TE} {σ : L2.St} {H : Hp} {j : Nat}, Er K te σ H (.n (vis hd)) → j < 23 → Er K (tOp (rIxL K) te (tC (.int (j : Int)))) σ H (.i (hd.getD j 0)) := fun {te σ H j} q hj => er_numN q er_c (by omega)
  have hs1 := hs.mono e1
  refine' a_setv (K := K) (x := .str (S alls)) er_c ?g5
  intro H2 e2
  have hh2 := hh1.mono e2
  -- size, many
  obtain ⟨z1, z2, z3, z4⟩ := lotSize_is hok h4
  obtain ⟨y1, y2, y3⟩ := lotMany_is hok (upto := upto)
  refine' a_setv (K := K) (x := .int (lotSize hd widest : Int)) (Er.to (er_cb (era_cons (er_v rfl) (era_cons (er_op (er_lst (vs := vis (sizL hd)) ?g6 (by show (16 : Nat) ≤ 100000; decide)) (athd (j := 0) (er_var rfl hh2) (by decide)) (ro_ixIN hok.b0.1 (by show _ < ((16 : Nat) : Int); exact hok.b0.2))) era_nil)) rc_min2) (congrArg Dd.i z1.symm)) ?g7
  case g6 => repeat (first | exact era_nil | refine era_cons er_c ?_ | refine era_cons (er_op er_c (athd (j := 19) (er_var rfl hh2) (by decide)) ro_I0) ?_)
  intro H3 e3
  have hh3 := hh2.mono e3
  refine' a_setv (K := K) (x := .int (lotMany hd upto : Int)) (Er.to (er_cb (era_cons (er_v rfl) (era_cons (er_op (er_lst (vs := vis (manL hd)) ?g8 (by show (16 : Nat) ≤ 100000; decide)) (athd (j := 1) (er_var rfl hh3) (by decide)) (ro_ixIN hok.b1.1 (by show _ < ((16 : Nat) : Int); exact hok.b1.2))) era_nil)) rc_min2) (congrArg Dd.i y1.symm)) ?g9
  case g8 => repeat (first | exact era_nil | refine era_cons er_c ?_ | refine era_cons (er_op er_c (athd (j := 20) (er_var rfl hh3) (by decide)) ro_I0) ?_)
  intro H4 e4
  have hh4 := hh3.mono e4
  -- inks, last
  have d24 : ∀ j : Nat, j < 4 → ((hd.drop 2).take 4).getD j 0 = hd.getD (2 + j) 0 := fun j hj => by
    rw [List.getD_eq_getElem?_getD, List.getD_eq_getElem?_getD, List.getElem?_take, if_pos hj, List.getElem?_drop]
  have iok : InkOk ((hd.drop 2).take 4) := by
    have l4 : ((hd.drop 2).take 4).length = 4 := by
      rw [List.length_take, List.length_drop, hlen]
      decide
    have q := hok.b3
    refine ⟨by omega, by omega, ?_, ?_⟩
    · rw [d24 1 (by decide)]
      exact q.1
    · rw [d24 1 (by decide)]
      exact q.2
  refine' a_setv (K := K) (x := .str (S (lotInks hd))) (er_call (K := K) ((hd.drop 2).take 4) (era_cons (Er.n2l (er_slvMid (n := 2) (m := 6) (Er.n2l (er_var rfl hh4)) er_c er_c (by decide) (by omega))) era_nil) rfl iok) ?g10
  intro H5 e5
  have hh5 := hh4.mono e5
  have lik : (lotInks hd).length = 3 := rfl
  have b7 := hok.b7
  refine' a_setv (K := K) (x := .str (S [lotLast hd])) (er_op (d1 := .s (S (lotInks hd))) (d2 := .i (2 * hd.getD 7 0)) (er_v rfl) (er_op er_c (er_cb (era_cons (athd (j := 7) (er_var rfl hh5) (by decide)) era_nil) rc_int) (ro_mulL (by decide) (by decide))) (ro_ixC (by omega) (by rw [lik]; omega) (by rw [lik]; decide))) ?g11
  intro H6 e6
  have hh6 := hh5.mono e6
  -- menu
  have mx : 0 ≤ maxI (hd.getD 6 0) (3 * (if 5 < (lotSize hd widest : Int) then 1 else 0)) ∧ maxI (hd.getD 6 0) (3 * (if 5 < (lotSize hd widest : Int) then 1 else 0)) < 4 := by
    have := hok.b6
    unfold maxI
    split <;> split <;> omega
  have ig : ∀ {σ : L2.St} {H : Hp} {j : Nat}, σ[8]? = some (some (.str (S (lotInks hd)))) → j < 3 → Er K (tOp rIxS (tVar 8) (tC (.int (j : Int)))) σ H (.s (S [(lotInks hd).getD j 0])) := fun {σ H j} q hj => er_sign (er_v q) er_c (by omega) (by omega)
  refine' a_setv (K := K) (x := .str (S (lotMenu hd (lotSize hd widest)))) (er_op (d2 := .i (maxI (hd.getD 6 0) (3 * (if 5 < (lotSize hd widest : Int) then 1 else 0)))) (er_lst (vs := vsl (menus (lotInks hd) (lotLast hd))) (era_cons ?m1 (era_cons ?m2 (era_cons ?m3 (era_cons ?m4 era_nil)))) (by simp [menus, vss])) ?g12 (ro_ixSN mx.1 (by show _ < ((4 : Nat) : Int); exact mx.2))) ?g13
  case m1 => exact Er.to (er_op (er_op (er_op (er_op (d1 := .s (S [45, 45, 45, 45])) er_c (ig (j := 0) rfl (by decide)) (ro_addC (by simp))) (ig (j := 0) rfl (by decide)) (ro_addC (by simp))) (ig (j := 1) rfl (by decide)) (ro_addC (by simp))) (d2 := .s (S [lotLast hd])) (er_v rfl) (ro_addC (by simp))) rfl
  case m2 => exact Er.to (er_op (er_op (er_op (d1 := .s (S [45, 45, 45, 45, 45])) er_c (ig (j := 0) rfl (by decide)) (ro_addC (by simp))) (ig (j := 1) rfl (by decide)) (ro_addC (by simp))) (d2 := .s (S [lotLast hd])) (er_v rfl) (ro_addC (by simp))) rfl
  case m3 => exact Er.to (er_op (er_op (er_op (d1 := .s (S [45, 45, 45, 45, 45])) er_c (ig (j := 0) rfl (by decide)) (ro_addC (by simp))) (ig (j := 0) rfl (by decide)) (ro_addC (by simp))) (ig (j := 1) rfl (by decide)) (ro_addC (by simp))) rfl
  case m4 => exact Er.to (er_op (er_op (d1 := .s (S [45, 45, 45, 45, 45, 45])) er_c (ig (j := 0) rfl (by decide)) (ro_addC (by simp))) (d2 := .s (S [lotLast hd])) (er_v rfl) (ro_addC (by simp))) rfl
  case g12 =>
    refine Er.to (er_cb (era_cons (er_cb (era_cons (athd (j := 6) (er_var rfl hh6) (by decide)) era_nil) rc_int) (era_cons (er_op er_c (er_cb (era_cons (er_op (er_v rfl) er_c ro_I0) era_nil) rc_intB) (ro_mulL (by decide) (by decide))) era_nil)) rc_max2) ?_
    unfold maxI
    by_cases q : 5 < (lotSize hd widest : Int)
    · rw [decide_eq_true q, if_pos rfl, if_pos q]
    · rw [decide_eq_false q, if_neg Bool.false_ne_true, if_neg q]
  intro H7 e7
  have hh7 := hh6.mono e7
  -- names
  refine' a_asg (K := K) (er_call (K := K) (hd.drop 9, lotMany hd upto) (era_cons (Er.n2l (er_slvFrom (n := 9) (Er.n2l (er_var rfl hh7)) er_c)) (era_cons (er_v rfl) era_nil)) rfl ⟨by show 10 ≤ (hd.drop 9).length; rw [List.length_drop, hlen]; decide, by show lotMany hd upto ≤ 1000; omega⟩) ?g14
  intro vn H8 e8 hn8
  replace hn8 : Is K H8 (.n (vsl (namesM (hd.drop 9) (lotMany hd upto)))) vn := hn8
  have hh8 := hh7.mono e8
  have E8 : Ex H H8 := e1.trans (e2.trans (e3.trans (e4.trans (e5.trans (e6.trans (e7.trans e8))))))
  have hs8 := hs.mono E8
  clear hh1 hh2 hh3 hh4 hh5 hh6 hh7 hs1
  generalize hsz : lotSize hd widest = size at z2 z3 z4 hk
  generalize hmn : lotMany hd upto = many at y2 y3 hn8 hk
  have lnm : (namesM (hd.drop 9) many).length = many := by simp [namesM]
  refine s_new (G := H8) (Ex.refl H8) fun o A9 hoA hoG st9 q9 => ?_
  refine b_for (K := K) (G := H8) (A := A9) (if_range (n := many) (era_cons (er_v rfl) era_nil) (by omega)) st9.v (fun i σ' G' A' => ∃ m y, σ' = [some (.ref p), some (.int (at_ : Int)), some (.int (upto : Int)), some (.int (widest : Int)), some vh, some (.str (S alls)), some (.int (size : Int)), some (.int (many : Int)), some (.str (S (lotInks hd))), some (.str (S [lotLast hd])), some (.str (S m)), some vn, some (.ref o), y, none] ∧ (hd.getD 21 0 ≠ 0 → m = lotMenu hd size) ∧ Ex H8 A' ∧ G' o = none ∧ ∃ us, A' o = some (.lst us) ∧ IsE K G' (stD ((lotRow ns at_ hd size many).take i)) us) ?h0 ?hs ?hd
  case h0 =>
    intro G1 A1 s1
    refine ⟨lotMenu hd size, none, ?_, fun _ => rfl, st9.a.trans s1.a, s1.f o (by rw [q9]; simp) hoG, [], s1.a o _ q9, ?_⟩
    · rw [← hsz, ← hmn]
      rfl
    · rw [List.take_zero]
      rfl
  case hs =>
    rintro G1 e1' i d v σ' G' A' G2 A2 hd1 ⟨m, y, rfl, hm, eA, go, us, hu, hE⟩ eg ev s2 hv2
    have hi : i < many := by
      have := (List.getElem?_eq_some_iff.mp hd1).1
      simpa using this
    rw [List.getElem?_map, List.getElem?_range hi] at hd1
    have ed := Option.some.inj hd1
    subst ed
    have ev2 : v = .int (i : Int) := hv2
    subst ev2
    have uN : A' o ≠ none := by rw [hu]; simp
    have go2 := s2.f o uN go
    have hu2 := s2.a o _ hu
    have eA2 := eA.trans s2.a
    have hhd := hh8.mono eA2
    have eG2 : Ex H8 G2 := (e1'.trans eg).trans s2.g
    refine' a_ifSetS (K := K) (c := freeMenu hd i) (e := m) (b := decide (hd.getD 21 0 = 0)) (et1 (er_op (athd (j := 21) (er_var rfl hhd) (by decide)) er_c ro_eqI)) ?n1 rfl ?n2
    case n1 =>
      intro _
      refine er_op (d1 := .s (S [45, 45, 45, 45, 45])) (d2 := .s (S ((List.range 3).map fun j : Nat => alls.getD ((hd.getD 22 0 + 3 * (i : Int) + (j : Int)) % 27).toNat 0))) er_c (er_bm (K := K) (d0 := .s (S [])) (ds := [.n (((List.range 3).map fun j : Nat => alls.getD ((hd.getD 22 0 + 3 * (i : Int) + (j : Int)) % 27).toNat 0).map fun c => V.str (S [c]))]) er_c (era_cons (Er.to (er_lcR' (K := K) (n := 3) (vs := [14]) (fun j => V.str (S [alls.getD ((hd.getD 22 0 + 3 * (i : Int) + (j : Int)) % 27).toNat 0])) (era_cons er_c era_nil) (by decide) (fun _ => rfl) ?n3) ?n4) era_nil) (rm_joinC ?n5)) (ro_addC (by simp))
      case n3 =>
        intro j H3 e3 hj
        have q0 : 0 ≤ (hd.getD 22 0 + 3 * (i : Int) + (j : Int)) % 27 := Int.emod_nonneg _ (by decide)
        have q1 : (hd.getD 22 0 + 3 * (i : Int) + (j : Int)) % 27 < 27 := Int.emod_lt_of_pos _ (by decide)
        exact er_op (d2 := .i ((hd.getD 22 0 + 3 * (i : Int) + (j : Int)) % 27)) (er_v rfl) (er_op (er_cb (era_cons (er_op (er_op (athd (j := 22) (er_var rfl (hhd.mono e3)) (by decide)) (er_op er_c (er_v rfl) (ro_mulL (by decide) (by decide))) ro_I0) (er_v rfl) ro_I0) era_nil) rc_int) er_c (ro_mod (by decide))) (ro_ixC q0 (by rw [lal]; exact q1) (by rw [lal]; decide))
      case n4 =>
        rw [List.map_map]
        rfl
      case n5 => simp
    intro A3 e3
    have em : (if decide (hd.getD 21 0 = 0) = true then freeMenu hd i else m) = menuAt hd size i := by
      unfold menuAt
      by_cases q : hd.getD 21 0 = 0
      · rw [if_pos q, decide_eq_true q, if_pos rfl]
      · rw [if_neg q, decide_eq_false q, if_neg Bool.false_ne_true]
        exact hm q
    rw [em]
    have lm := menuAt_len hok size i
    have ex : lotPair ns at_ hd size many i = (nameM (hd.drop 9) many i, txtM (menuAt hd size i) (digM (cellM ns (at_ + 1 + i)) (List.replicate size 8)) size) := rfl
    have hnn : (namesM (hd.drop 9) many).getD i [] = nameM (hd.drop 9) many i := by
      rw [List.getD_eq_getElem?_getD, namesM, List.getElem?_map, List.getElem?_range hi]
      rfl
    have bd8 : ∀ s ∈ List.replicate size (8 : Int), 0 < s ∧ s < 1000000 := fun s hs => by
      rw [(List.mem_replicate.mp hs).2]
      decide
    refine s_app (K := K) (G := G2) (d := .L [.s (S (nameM (hd.drop 9) many i)), .s (S (txtM (menuAt hd size i) (digM (cellM ns (at_ + 1 + i)) (List.replicate size 8)) size))]) (e3 o _ hu2) go2 (s2.v.trans e3) (er_v rfl) (Ef.as (ef_N (efa_cons (ef_flat ?t1) (efa_cons (ef_flat ?t2) efa_nil)) (by simp)) fun _ _ z => z.N2L) ?t3 ?t4
    case t1 => exact Er.to (er_op (d2 := .i (i : Int)) (er_var rfl (hn8.mono eG2)) (er_v rfl) (ro_ixSN (by omega) (by rw [lnm]; omega))) (by rw [Int.toNat_natCast, hnn])
    case t2 =>
      refine er_call (K := K) (menuAt hd size i, digM (cellM ns (at_ + 1 + i)) (List.replicate size 8), size) (ds := [.s (S (menuAt hd size i)), .l (vis (digM (cellM ns (at_ + 1 + i)) (List.replicate size 8))), .i (size : Int)]) (era_cons (er_v rfl) (era_cons (Er.n2l (er_call (K := K) (cellM ns (at_ + 1 + i), List.replicate size 8) (ds := [.i (cellM ns (at_ + 1 + i)), .l (vis (List.replicate size 8))]) (era_cons (er_call (K := K) (ns, at_ + 1 + i) (ds := [.l (vis ns), .i ((at_ + 1 + i : Nat) : Int)]) (era_cons (er_var rfl (hs8.mono eG2)) (era_cons (er_op (er_op (er_v rfl) er_c ro_I0) (er_v rfl) ro_I0) era_nil)) rfl ⟨h1, by show at_ + 1 + i ≤ 1000; omega⟩) (era_cons (Er.n2l ?t5) era_nil)) rfl ⟨by show (List.replicate size (8 : Int)).length ≤ 1000; rw [List.length_replicate]; omega, bd8⟩)) (era_cons (er_v rfl) era_nil))) rfl ⟨by show 8 ≤ (menuAt hd size i).length; omega, by show (menuAt hd size i).length ≤ 1000; omega, by show size ≤ (digM _ (List.replicate size 8)).length; rw [digM_len, List.length_replicate]; omega, z2, by show size ≤ 1000; omega⟩
      case t5 =>
        have e0 : vis (List.replicate size 8) = (List.replicate size [V.int 8]).flatten := by
          rw [vis, List.map_replicate, List.flatten_replicate_singleton]
        rw [e0]
        exact er_op (er_lst (vs := [.int 8]) (era_cons er_c era_nil) (by simp)) (er_v rfl) (ro_rep (by simp; omega) (by omega))
    case t3 =>
      rw [← isE_len hE, stD_len, List.length_take]
      omega
    case t4 =>
      intro w4 G4 A4 s4 z4 go4 hu4
      refine ⟨G4, ⟨menuAt hd size i, _, rfl, fun q => ?_, Ex.mut (eA2.trans (e3.trans s4.a)) hoA, go4, us ++ [w4], upd_same, ?_⟩, (eg.trans s2.g).trans s4.g, s4.v.mut go4⟩
      · unfold menuAt
        rw [if_neg q]
      · have hx : (lotRow ns at_ hd size many)[i]? = some (lotPair ns at_ hd size many i) := by
          rw [lotRow, List.getElem?_map, List.getElem?_range hi]
          rfl
        have e5 : stD ((lotRow ns at_ hd size many).take (i + 1)) = stD ((lotRow ns at_ hd size many).take i) ++ [.L [.s (S (lotPair ns at_ hd size many i).1), .s (S (lotPair ns at_ hd size many i).2)]] := by
          rw [List.take_add_one, hx, stD, List.map_append]
          rfl
        rw [e5]
        exact isE_app (IsE.mono (s2.g.trans s4.g) hE) ⟨w4, [], rfl, z4, rfl⟩
  case hd =>
    rintro σ' G' A' eg ev ⟨m, y, rfl, hm, eA, go, us, hu, hE⟩
    have lr : (lotRow ns at_ hd size many).length = many := by simp [lotRow]
    rw [List.length_map, List.length_range, List.take_of_length_le (by omega)] at hE
    have lus : us.length = many := by
      have := isE_len hE
      rw [stD_len, lr] at this
      omega
    have fin : ∀ (G2 A2 : Hp) (us2 : List V), Ex H8 A2 → Ex G2 A2 → A2 o = some (.lst us2) → IsE K G2 (stD (lotAll ns at_ hd size many)) us2 → tRet (tLst (tCons (tVar 6) (tCons (tVar 8) (tCons (tVar 12) tNil)))) { nx := fun _ H' => Q .non H', rt := Q } [some (.ref p), some (.int (at_ : Int)), some (.int (upto : Int)), some (.int (widest : Int)), some vh, some (.str (S alls)), some (.int (size : Int)), some (.int (many : Int)), some (.str (S (lotInks hd))), some (.str (S [lotLast hd])), some (.str (S m)), some vn, some (.ref o), y, none] A2 := by
      intro G2 A2 us2 e2 ev2 hu2 hE2
      refine a_rete (K := K) (Er.as (er_N (era_cons (er_v rfl) (era_cons (er_v rfl) (era_cons (er_var (d := .L (stD (lotAll ns at_ hd size many))) rfl ⟨o, us2, rfl, sq_of hu2, IsE.mono ev2 hE2⟩) era_nil))) (by simp)) fun _ _ z => z.N2L) rfl (E8.trans e2) hk
    have hh' := hh8.mono eA
    have hn' := hn8.mono eA
    refine' a_when (K := K) (b := (decide (hd.getD 8 0 = 0) && decide ((1 : Int) < (many : Int)))) (et_an (et1 (er_op (athd (j := 8) (er_var rfl hh') (by decide)) er_c ro_eqI)) fun _ => et1 (er_op (er_v rfl) er_c ro_I0)) ?f1 ?f2
    case f2 =>
      intro hb A2 e2
      refine fin G' A2 us (eA.trans e2) (ev.trans e2) (e2 o _ hu) ?_
      have q : ¬ (hd.getD 8 0 = 0 ∧ 1 < many) := by
        rintro ⟨q1, q2⟩
        rw [decide_eq_true q1, decide_eq_true (by omega)] at hb
        cases hb
      unfold lotAll
      rw [if_neg q]
      exact hE
    case f1 =>
      intro hb A2 e2
      rw [Bool.and_eq_true] at hb
      have q : hd.getD 8 0 = 0 ∧ 1 < many := by
        have a := of_decide_eq_true hb.1
        have b := of_decide_eq_true hb.2
        omega
      have hu2 := e2 o _ hu
      have hE2 := IsE.mono ev hE
      have hi : many - 1 < many := by omega
      have hnn : (namesM (hd.drop 9) many).getD (many - 1) [] = nameM (hd.drop 9) many (many - 1) := by
        rw [List.getD_eq_getElem?_getD, namesM, List.getElem?_map, List.getElem?_range hi]
        rfl
      have h0 : (lotRow ns at_ hd size many)[0]? = some ((lotRow ns at_ hd size many).getD 0 ([], [])) := by
        rw [List.getD_eq_getElem?_getD, List.getElem?_eq_getElem (by omega)]
        rfl
      have ei : ((many - 1 : Nat) : Int) = (many : Int) - 1 := by omega
      have hst : Is K A2 (.L (stD (lotRow ns at_ hd size many))) (.ref o) := ⟨o, us, rfl, sq_of hu2, IsE.mono (ev.trans e2) hE⟩
      refine s_setflat (K := K) (G := G') (xs := [.str (S (nameM (hd.drop 9) many (many - 1))), .str (S ((lotRow ns at_ hd size many).getD 0 ([], [])).2)]) (j := many - 1) hu2 go (ev.trans e2) (era_cons ?v1 (era_cons ?v2 era_nil)) (by simp) (er_v rfl) (Er.to (er_op (er_v rfl) er_c ro_I0) (congrArg Dd.i ei.symm)) (by omega) ?v3
      case v1 => exact Er.to (er_op (d2 := .i ((many - 1 : Nat) : Int)) (er_var rfl (hn'.mono e2)) (Er.to (er_op (er_v rfl) er_c ro_I0) (congrArg Dd.i ei.symm)) (ro_ixSN (by omega) (by rw [lnm]; omega))) (by rw [Int.toNat_natCast, hnn])
      case v2 => exact er_place (i := 1) (er_place (i := 0) (er_var rfl hst) er_c (stD_at h0)) er_c rfl
      case v3 =>
        intro pn G4 A4 s4 gp go4 hu4
        refine fin G4 _ (us.set (many - 1) (.ref pn)) (Ex.mut ((eA.trans e2).trans s4.a) hoA) (s4.v.mut go4) upd_same ?_
        unfold lotAll
        rw [if_pos q]
        have e5 : stD ((lotRow ns at_ hd size many).set (many - 1) (nameM (hd.drop 9) many (many - 1), ((lotRow ns at_ hd size many).getD 0 ([], [])).2)) = (stD (lotRow ns at_ hd size many)).set (many - 1) (.L [.s (S (nameM (hd.drop 9) many (many - 1))), .s (S ((lotRow ns at_ hd size many).getD 0 ([], [])).2)]) := by
          unfold stD
          rw [List.map_set]
        rw [e5]
        exact isE_set (IsE.mono s4.g hE) (show Is K G4 (.L ([.str (S (nameM (hd.drop 9) many (many - 1))), .str (S ((lotRow ns at_ hd size many).getD 0 ([], [])).2)].map Dd.v)) (.ref pn) from ⟨pn, _, rfl, sq_of gp, isE_v.mpr rfl⟩)
end
end Mi

set_option maxHeartbeats 4000000
namespace Mi
open PySem PySem.Spec PyProof.Rows L2 Evl
local macro_rules | `(tactic| walk_at "side") => `(tactic| (first | assumption | omega | exact rfl | decide | (simp only [List.length_cons, List.length_nil, List.length_map, List.length_append, List.length_replicate] <;> omega)))
local macro_rules | `(tactic| walk_at "ro") => `(tactic| (first
  | with_reducible exact ro_I0
  | with_reducible exact ro_1018
  | with_reducible exact ro_neC
  | with_reducible exact ro_eqC
  | with_reducible exact ro_neI
  | with_reducible exact ro_eqI
  | with_reducible exact ro_neB
  | with_reducible exact ro_eqB
  | ((with_reducible apply ro_mod); (walk_at "side"))
  | ((with_reducible apply ro_div) <;> (walk_at "side"))
  | ((with_reducible apply ro_divW) <;> (walk_at "side"))
  | with_reducible exact ro_1012
  | with_reducible exact ro_1015
  | ((with_reducible apply ro_mulL) <;> (walk_at "side"))
  | ((with_reducible apply ro_mulR) <;> (walk_at "side"))
  | ((with_reducible apply ro_addC); (walk_at "side"))
  | ((with_reducible apply ro_ixC) <;> (walk_at "side"))
  | ((with_reducible apply ro_ixI) <;> (walk_at "side"))
  | ((with_reducible apply ro_ixIN) <;> (walk_at "side"))
  | ((with_reducible apply ro_ixT2) <;> (walk_at "side"))
  | ((with_reducible apply ro_ixG) <;> (walk_at "side"))
  | ((with_reducible apply ro_eq); exact rfl)
  | ((with_reducible apply ro_ne); exact rfl)
  | with_reducible exact ro_isN
  | with_reducible exact ro_notN
  | with_reducible exact ro_eqL
  | with_reducible exact ro_neL
  | with_reducible exact ro_eqU
  | ((with_reducible apply ro_cat); (walk_at "side"))
  | with_reducible exact ro_inLi
  | with_reducible exact ro_inNi
  | with_reducible exact ro_inUi
  | ((with_reducible apply ro_inL) <;> (walk_at "side"))
  | ((with_reducible apply ro_inN) <;> (walk_at "side"))
  | ((with_reducible apply ro_inU) <;> (walk_at "side"))))
local macro_rules | `(tactic| walk_at "rc") => `(tactic| (first
  | with_reducible exact rc_int
  | with_reducible exact rc_intB
  | with_reducible exact rc_max2
  | ((with_reducible apply rc_lenC); (walk_at "side"))
  | with_reducible exact rc_lenI
  | with_reducible exact rc_lenT
  | with_reducible exact rc_lenIN
  | with_reducible exact rc_lenTN
  | with_reducible exact rc_lenL
  | with_reducible exact rc_lenN
  | with_reducible exact rc_lenU
  | with_reducible exact rc_listL
  | with_reducible exact rc_listU
  | with_reducible exact rc_tupL
  | with_reducible exact rc_tupN
  | ((with_reducible apply rc_isi_int); decide +kernel)
  | ((with_reducible apply rc_isi_str); decide +kernel)
  | ((with_reducible apply rc_isi_bl); decide +kernel)
  | ((with_reducible apply rc_isi_non); decide +kernel)
  | ((with_reducible apply rc_isi_u); decide +kernel)
  | ((with_reducible apply rc_isi_l); decide +kernel)))
local macro_rules | `(tactic| walk_at "er") => `(tactic| (first
  | ((with_reducible apply er_var); (exact rfl); assumption)
  | ((with_reducible apply er_v); exact rfl)
  | with_reducible exact er_c
  | ((with_reducible apply er_pick); (walk_at "er"); (walk_at "er"); (walk_at "er"))
  | ((with_reducible apply er_op); (walk_at "er"); (walk_at "er"); (walk_at "ro"))
  | ((with_reducible apply er_cb); (walk_at "era"); (walk_at "rc"))
  | ((with_reducible apply er_lst'); (walk_at "era"); (exact rfl); (walk_at "side"))
  | ((with_reducible apply er_tup'); (walk_at "era"); (exact rfl); (walk_at "side"))
  | ((with_reducible apply er_notV); (walk_at "er"))
  | ((with_reducible apply er_andV); (walk_at "er"); (intro _; (walk_at "er")))
  | ((with_reducible apply er_orV); (walk_at "er"); (intro _; (walk_at "er")))
  | ((with_reducible apply er_ite); (walk_at "et"); (intro _; (walk_at "er")); (intro _; (walk_at "er")))))
local macro_rules | `(tactic| walk_at "era") => `(tactic| (first
  | with_reducible exact era_nil
  | ((with_reducible apply era_cons); (walk_at "er"); (walk_at "era"))))
local macro_rules | `(tactic| walk_at "et") => `(tactic| (first
  | ((with_reducible apply et_an); (walk_at "et"); (intro _; (walk_at "et")))
  | ((with_reducible apply et_orr); (walk_at "et"); (intro _; (walk_at "et")))
  | ((with_reducible apply et_nt); (walk_at "et"))
  | ((with_reducible apply et1); (walk_at "er"))
  | ((with_reducible apply et2); (walk_at "er"))))

section
variable {P : Program} {w : World} {K : PySem.W.Frag} {mg : Str → Option Value} {base : Heap}

abbrev s__law_scene : Stmt := topS 54
theorem sc__law_scene : FnScope ["script", "at", "lot", "size", "head", "numbers", "pool", "menu", "base", "shown", "number", "spot", "other", "sign"] ["script", "at", "lot"] (defScope s__law_scene) := ⟨rfl, rfl, rfl, by decide +kernel, rfl, by decide +kernel, by decide +kernel⟩

def szSc : List Int := [8, 8, 6, 6, 30, 3, 3, 24] ++ List.replicate 60 4
def szNum : List Int := [8, 2] ++ List.replicate 7 60
theorem szSc_few : szSc.length ≤ 1000 := by decide
theorem szSc_bd : ∀ s ∈ szSc, 0 < s ∧ s < 1000000 := by decide
theorem szSc_pos : ∀ s ∈ szSc, 0 < s := by decide
theorem szNum_few : szNum.length ≤ 1000 := by decide
theorem szNum_bd : ∀ s ∈ szNum, 0 < s ∧ s < 1000000 := by decide
theorem szNum_pos : ∀ s ∈ szNum, 0 < s := by decide
def othersM (ik : List Nat) : List Nat := alls.filter fun c => !decide (c ∈ ik)
def poolM (ik : List Nat) (hd : List Int) : List Nat := ik ++ [(othersM ik).getD (hd.getD 7 0).toNat 0]
def scMenus (pl : List Nat) : List (List Nat) := [[pl.getD 0 0] ++ pl.take 3, [pl.getD 3 0, pl.getD 3 0, pl.getD 3 0, pl.getD 0 0], [pl.getD 3 0, pl.getD 3 0, pl.getD 3 0, pl.getD 1 0]]
def scMenu (pl : List Nat) (hd : List Int) : List Nat := (scMenus pl).getD (hd.getD 6 0).toNat []
def runM (st : List (List Nat × List Nat)) (x : List Nat) (nums : List Int) : List Nat := nums.foldl (fun x n => pressM x (st.getD n.toNat ([], [])).2) x
def restM (pl : List Nat) (c : Nat) : List Nat := pl.filter fun s => !decide (s = c)
def spoilM (pl : List Nat) (hd : List Int) (size : Nat) (x : List Nat) : List Nat := x.take (hd.getD 4 0 % (size : Int)).toNat ++ [(restM pl (x.getD (hd.getD 4 0 % (size : Int)).toNat 0)).getD (hd.getD 5 0).toNat 0] ++ x.drop ((hd.getD 4 0 % (size : Int)).toNat + 1)
def headS (ns : List Int) (at_ : Nat) : List Int := digM (cellM ns at_) szSc
def numsS (ns : List Int) (at_ : Nat) (many : Nat) : List Int := numM many (digM (cellM ns (at_ + 1)) szNum)
def base0 (hd : List Int) (ik : List Nat) (size : Nat) : List Nat := pickM (scMenu (poolM ik hd) hd) 4 ((hd.drop 8).take 30) size
def shown1 (hd : List Int) (ik : List Nat) (size : Nat) (st : List (List Nat × List Nat)) (nums : List Int) : List Nat := if hd.getD 0 0 < 2 then spoilM (poolM ik hd) hd size (runM st (base0 hd ik size) nums) else runM st (base0 hd ik size) nums
def base1 (hd : List Int) (ik : List Nat) (size : Nat) : List Nat := if hd.getD 1 0 < 2 then pickM (scMenu (poolM ik hd) hd) 4 (hd.drop 38) size else base0 hd ik size
def dimM (ns : List Int) (at_ : Nat) (n : Int) (size : Nat) (x : List Nat) : List Nat := if n < 2 then dashM x (digM (cellM ns at_) (List.replicate size 6)) (if decide (n = 0) = true then 3 else 1) else x
def sceneD (ns : List Int) (at_ size : Nat) (ik : List Nat) (st : List (List Nat × List Nat)) : Dd := .L [.s (S (dimM ns (at_ + 3) ((headS ns at_).getD 3 0) size (base1 (headS ns at_) ik size))), .s (S (dimM ns (at_ + 2) ((headS ns at_).getD 2 0) size (shown1 (headS ns at_) ik size st (numsS ns at_ st.length)))), .l (vis (numsS ns at_ st.length))]
theorem keep_one {l : List Nat} (h : l.Nodup) (c : Nat) : l.length ≤ (l.filter fun s => !decide (s = c)).length + 1 := by
  induction l with
  | nil => simp
  | cons x r ih =>
    rw [List.nodup_cons] at h
    have q := ih h.2
    by_cases hx : x = c
    · have e : (r.filter fun s => !decide (s = c)) = r := List.filter_eq_self.mpr fun y hy => by
        have : y ≠ c := fun z => h.1 (by rw [hx, ← z]; exact hy)
        simpa using this
      rw [List.filter_cons_of_neg (by simpa using hx), e, List.length_cons]
      exact Nat.le_refl _
    · rw [List.filter_cons_of_pos (by simpa using hx), List.length_cons, List.length_cons]
      omega
structure InksOk (ik : List Nat) : Prop where
  len : ik.length = 3
  nodup : ik.Nodup
  mem : ∀ c ∈ ik, c ∈ alls
theorem others_len {ik : List Nat} (h : InksOk ik) : 24 ≤ (othersM ik).length := by
  obtain ⟨a, b, c, rfl⟩ : ∃ a b c, ik = [a, b, c] := by
    have hl := h.len
    match ik, hl with
    | [a, b, c], _ => exact ⟨a, b, c, rfl⟩
  have n0 : alls.Nodup := by decide
  have e : othersM [a, b, c] = ((alls.filter fun s => !decide (s = a)).filter fun s => !decide (s = b)).filter fun s => !decide (s = c) := by
    unfold othersM
    rw [List.filter_filter, List.filter_filter]
    congr 1
    funext s
    simp
    by_cases h1 : s = a <;> by_cases h2 : s = b <;> by_cases h3 : s = c <;> simp [h1, h2, h3]
  have n1 := n0.filter fun s => !decide (s = a)
  have n2 := n1.filter fun s => !decide (s = b)
  have l0 : alls.length = 27 := rfl
  have q1 := keep_one n0 a
  have q2 := keep_one n1 b
  have q3 := keep_one n2 c
  rw [e]
  omega
theorem pool_ok {ik : List Nat} {hd : List Int} (h : InksOk ik) (h7 : 0 ≤ hd.getD 7 0 ∧ hd.getD 7 0 < 24) : (poolM ik hd).length = 4 ∧ (poolM ik hd).Nodup := by
  have ho := others_len h
  have hm : (othersM ik).getD (hd.getD 7 0).toNat 0 ∈ othersM ik := getD_memL (by omega)
  have hn : ¬ (othersM ik).getD (hd.getD 7 0).toNat 0 ∈ ik := by
    have q := (List.mem_filter.mp hm).2
    simpa using q
  refine ⟨by unfold poolM; rw [List.length_append, h.len]; rfl, ?_⟩
  unfold poolM
  rw [List.nodup_append]
  refine ⟨h.nodup, by simp, fun a ha b hb e => hn ?_⟩
  rw [← List.mem_singleton.mp hb, ← e]
  exact ha
theorem runM_next {st : List (List Nat × List Nat)} {x : List Nat} {nums : List Int} {i : Nat} {n : Int} (h : nums[i]? = some n) : runM st x (nums.take (i + 1)) = pressM (runM st x (nums.take i)) (st.getD n.toNat ([], [])).2 := by
  unfold runM
  rw [List.take_add_one, h, List.foldl_append]
  rfl
theorem runM_len {st : List (List Nat × List Nat)} {size : Nat} (hst : ∀ p ∈ st, p.2.length = size) : ∀ {nums : List Int} {x : List Nat}, (∀ n ∈ nums, 0 ≤ n ∧ n < st.length) → x.length = size → (runM st x nums).length = size
  | [], x, _, h => h
  | n :: r, x, hn, h => by
    have q := hn n (.head _)
    have hp := hst (st.getD n.toNat ([], [])) (getD_memL (by omega))
    exact runM_len hst (nums := r) (fun m hm => hn m (.tail _ hm)) (by rw [pressM_len (by omega), h])
end
end Mi

set_option maxHeartbeats 4000000
namespace Mi
open PySem PySem.Spec PyProof.Rows L2 Evl
local macro_rules | `(tactic| walk_at "side") => `(tactic| (first | assumption | omega | exact rfl | decide | (simp only [List.length_cons, List.length_nil, List.length_map, List.length_append, List.length_replicate] <;> omega)))
local macro_rules | `(tactic| walk_at "ro") => `(tactic| (first
  | with_reducible exact ro_I0
  | with_reducible exact ro_1018
  | with_reducible exact ro_neC
  | with_reducible exact ro_eqC
  | with_reducible exact ro_neI
  | with_reducible exact ro_eqI
  | with_reducible exact ro_neB
  | with_reducible exact ro_eqB
  | ((with_reducible apply ro_mod); (walk_at "side"))
  | ((with_reducible apply ro_div) <;> (walk_at "side"))
  | ((with_reducible apply ro_divW) <;> (walk_at "side"))
  | with_reducible exact ro_1012
  | with_reducible exact ro_1015
  | ((with_reducible apply ro_mulL) <;> (walk_at "side"))
  | ((with_reducible apply ro_mulR) <;> (walk_at "side"))
  | ((with_reducible apply ro_addC); (walk_at "side"))
  | ((with_reducible apply ro_ixC) <;> (walk_at "side"))
  | ((with_reducible apply ro_ixI) <;> (walk_at "side"))
  | ((with_reducible apply ro_ixIN) <;> (walk_at "side"))
  | ((with_reducible apply ro_ixT2) <;> (walk_at "side"))
  | ((with_reducible apply ro_ixG) <;> (walk_at "side"))
  | ((with_reducible apply ro_eq); exact rfl)
  | ((with_reducible apply ro_ne); exact rfl)
  | with_reducible exact ro_isN
  | with_reducible exact ro_notN
  | with_reducible exact ro_eqL
  | with_reducible exact ro_neL
  | with_reducible exact ro_eqU
  | ((with_reducible apply ro_cat); (walk_at "side"))
  | with_reducible exact ro_inLi
  | with_reducible exact ro_inNi
  | with_reducible exact ro_inUi
  | ((with_reducible apply ro_inL) <;> (walk_at "side"))
  | ((with_reducible apply ro_inN) <;> (walk_at "side"))
  | ((with_reducible apply ro_inU) <;> (walk_at "side"))))
local macro_rules | `(tactic| walk_at "rc") => `(tactic| (first
  | with_reducible exact rc_int
  | with_reducible exact rc_intB
  | with_reducible exact rc_max2
  | ((with_reducible apply rc_lenC); (walk_at "side"))
  | with_reducible exact rc_lenI
  | with_reducible exact rc_lenT
  | with_reducible exact rc_lenIN
  | with_reducible exact rc_lenTN
  | with_reducible exact rc_lenL
  | with_reducible exact rc_lenN
  | with_reducible exact rc_lenU
  | with_reducible exact rc_listL
  | with_reducible exact rc_listU
  | with_reducible exact rc_tupL
  | with_reducible exact rc_tupN
  | ((with_reducible apply rc_isi_int); decide +kernel)
  | ((with_reducible apply rc_isi_str); decide +kernel)
  | ((with_reducible apply rc_isi_bl); decide +kernel)
  | ((with_reducible apply rc_isi_non); decide +kernel)
  | ((with_reducible apply rc_isi_u); decide +kernel)
  | ((with_reducible apply rc_isi_l); decide +kernel)))
local macro_rules | `(tactic| walk_at "er") => `(tactic| (first
  | ((with_reducible apply er_var); (exact rfl); assumption)
  | ((with_reducible apply er_v); exact rfl)
  | with_reducible exact er_c
  | ((with_reducible apply er_pick); (walk_at "er"); (walk_at "er"); (walk_at "er"))
  | ((with_reducible apply er_op); (walk_at "er"); (walk_at "er"); (walk_at "ro"))
  | ((with_reducible apply er_cb); (walk_at "era"); (walk_at "rc"))
  | ((with_reducible apply er_lst'); (walk_at "era"); (exact rfl); (walk_at "side"))
  | ((with_reducible apply er_tup'); (walk_at "era"); (exact rfl); (walk_at "side"))
  | ((with_reducible apply er_notV); (walk_at "er"))
  | ((with_reducible apply er_andV); (walk_at "er"); (intro _; (walk_at "er")))
  | ((with_reducible apply er_orV); (walk_at "er"); (intro _; (walk_at "er")))
  | ((with_reducible apply er_ite); (walk_at "et"); (intro _; (walk_at "er")); (intro _; (walk_at "er")))))
local macro_rules | `(tactic| walk_at "era") => `(tactic| (first
  | with_reducible exact era_nil
  | ((with_reducible apply era_cons); (walk_at "er"); (walk_at "era"))))
local macro_rules | `(tactic| walk_at "et") => `(tactic| (first
  | ((with_reducible apply et_an); (walk_at "et"); (intro _; (walk_at "et")))
  | ((with_reducible apply et_orr); (walk_at "et"); (intro _; (walk_at "et")))
  | ((with_reducible apply et_nt); (walk_at "et"))
  | ((with_reducible apply et1); (walk_at "er"))
  | ((with_reducible apply et2); (walk_at "er"))))

section
variable {P : Program} {w : World} {K : PySem.W.Frag} {mg : Str → Option Value} {base : Heap}

theorem kit2 {n m1 m2 : String} {b1 b2 : Bool} (h1 : kitB n m1 = some b1) (h2 : kitB n m2 = some b2) : PySem.W.kitAny K (.type n) [.type m1, .type m2] = some (b1 || b2) := by
  have q1 : PySem.W.kitOne K (.type n) (.type m1) = some b1 := kit_ty h1
  have q2 : PySem.W.kitOne K (.type n) (.type m2) = some b2 := kit_ty h2
  unfold PySem.W.kitAny
  rw [q1]
  cases b1 with
  | true => rfl
  | false =>
    show PySem.W.kitAny K (.type n) [.type m2] = some b2
    unfold PySem.W.kitAny
    rw [q2]
    cases b2 <;> rfl
abbrev s_as_tuples : Stmt := topS 19
theorem sc_as_tuples : FnScope ["value", "item"] ["value"] (defScope s_as_tuples) := ⟨rfl, rfl, rfl, by decide +kernel, rfl, by decide +kernel, by decide +kernel⟩

abbrev sp_tup (K : PySem.W.Frag) (k : Nat) : Sp := spF K (fun d : Dd => okD d ∧ depD d < k) (fun d => [d]) tupD
theorem has_as_tuples (T : Txt K mg) (h : At K mg "as_tuples" s_as_tuples ["value"]) : ∀ k, Has P w K mg base k "as_tuples" ["value"] (sp_tup K k)
  | 0 => h.none fun d hp => by
    have := hp.2
    omega
  | k + 1 => by
    have C_as_tuples := has_as_tuples T h k
    refine h.hasF sc_as_tuples (fun _ => rfl) fun f cdv Ar outer s G A d vs Q E hr hp hA hv hk => ?_
    obtain ⟨hok, hdep⟩ := hp
    rcases hv with _ | ⟨hx, _ | _⟩
    rename_i x
    have sc := sc_as_tuples
    refine ⟨_, (pss_cons (ps_if (pt_val (pe_callB (cr_isiT_k (K := K)) (by rfl) T.b_isinstance (by decide +kernel) (pa_cons (pv 0) (pa_cons (pe_tup (pa_cons (pe_bltn (v := .ty "list") (by rfl) T.b_list (by decide +kernel) rfl) (pa_cons (pe_bltn (v := .ty "tuple") (by rfl) T.b_tuple (by decide +kernel) rfl) pa_nil))) pa_nil)))) (pss_one (ps_ret (pe_callTy (cr_tuple_k (K := K)) (by rfl) T.b_tuple (by decide +kernel) (pa_cons (pe_lc (own := [("item", 1)]) (g := gName 1) (by rfl) sc.nd (pi_seqV (K := K) (pv 0)) (blkOk_by (N := ["value", "item"]) (sc := defScope s_as_tuples) (own := [("item", 1)]) (by decide +kernel)) (fun _ _ _ _ _ => (pg_name (i := 1) sc.nd rfl (Or.inl rfl))) (fun _ _ _ _ _ => pts_nil) (fun _ _ _ _ _ => (pe_callH C_as_tuples (hr.mono (Nat.le_refl _)) (pa_cons (pv 1) pa_nil)))) pa_nil)))) pss_nil)
    (pss_one (ps_ret (pv 0)))), ?_⟩
    have seq : ∀ ds : List Dd, okL ds → depL ds < k → ds.length ≤ 1000 → Itf K (iSeqV K 0) [some x, none] G (ds.map id) → ∀ A1, Ex A A1 → (∀ v G' A', Step G A G' A' → Is K G' (.U (tupL ds)) v → Q v A') → ∀ N, tRet (tCB (rTupS K) (tCons (tLc (iSeqV K 0) (gName 1) tYes (tCall (sp_tup K k) [] E0 (tCons (tVar 1) tNil)) [1]) tNil)) { nx := N, rt := Q } [some x, none] A1 := by
      intro ds ho hd hz hit A1 e1 hk1 N
      refine s_ret (K := K) (G := G) (d' := .U (tupL ds)) (ef_cb (efa_cons (Ef.to (ef_lc (K := K) (its := ds) (inj := id) (vs := [1]) (fun _ => true) tupD hit (by omega) ?_) ?_) efa_nil) rf_tupN) (hA.trans e1) rfl fun v G' A' st z => hk1 v G' A' ((Step.on hA e1).trans st) z
      · intro i d' v G' A' eg ea hd' hv'
        have e0 := depL_at hd'
        exact ⟨[some x, some v], fun Q q => q, rfl, fun H2 e Q q => q H2 (Ex.refl _), fun _ => ef_call d' (efa_cons (ef_var rfl hv') efa_nil) rfl ⟨okL_at ho hd', by omega⟩⟩
      · rw [filt_true, tupL_map]
    match d, hok, hdep, hx, hk with
    | .L ds, hok, hdep, hx, hk =>
      have hd : depL ds + 1 < k + 1 := hdep
      exact a_when (K := K) (b := true || false) (et2 (er_isiT (.type "list") (er_var rfl (hx.mono hA)) (fun _ _ z => ty_Ld z) (kit2 (by decide +kernel) (by decide +kernel)))) (fun _ A1 e1 => seq ds hok.1 (by omega) hok.2 (by rw [List.map_id]; exact if_seqL rfl hx) A1 e1 hk _) fun hb => by cases hb
    | .U ds, hok, hdep, hx, hk =>
      have hd : depL ds + 1 < k + 1 := hdep
      exact a_when (K := K) (b := false || true) (et2 (er_isiT (.type "tuple") (er_var rfl (hx.mono hA)) (fun _ _ z => ty_Ud z) (kit2 (by decide +kernel) (by decide +kernel)))) (fun _ A1 e1 => seq ds hok.1 (by omega) hok.2 (by rw [List.map_id]; exact if_seqU rfl hx) A1 e1 hk _) fun hb => by cases hb
    | .v (.str z), hok, hdep, hx, hk =>
      exact a_when (K := K) (b := false || false) (et2 (er_isiT (.type "str") (er_var rfl (hx.mono hA)) (fun _ _ e => by rw [show _ = V.str z from e]; exact .base (.str z)) (kit2 (by decide +kernel) (by decide +kernel)))) (fun hb => by cases hb) fun _ A1 e1 => s_ret (K := K) (G := G) (ef_var rfl hx) (hA.trans e1) rfl fun v G' A' st q => hk v G' A' ((Step.on hA e1).trans st) q
    | .v (.int z), hok, hdep, hx, hk =>
      exact a_when (K := K) (b := false || false) (et2 (er_isiT (.type "int") (er_var rfl (hx.mono hA)) (fun _ _ e => by rw [show _ = V.int z from e]; exact .base (.int z)) (kit2 (by decide +kernel) (by decide +kernel)))) (fun hb => by cases hb) fun _ A1 e1 => s_ret (K := K) (G := G) (ef_var rfl hx) (hA.trans e1) rfl fun v G' A' st q => hk v G' A' ((Step.on hA e1).trans st) q
end
end Mi

set_option maxHeartbeats 4000000
namespace Mi
open PySem PySem.Spec PyProof.Rows L2 Evl
local macro_rules | `(tactic| walk_at "side") => `(tactic| (first | assumption | omega | exact rfl | decide | (simp only [List.length_cons, List.length_nil, List.length_map, List.length_append, List.length_replicate] <;> omega)))
local macro_rules | `(tactic| walk_at "ro") => `(tactic| (first
  | with_reducible exact ro_I0
  | with_reducible exact ro_1018
  | with_reducible exact ro_neC
  | with_reducible exact ro_eqC
  | with_reducible exact ro_neI
  | with_reducible exact ro_eqI
  | with_reducible exact ro_neB
  | with_reducible exact ro_eqB
  | ((with_reducible apply ro_mod); (walk_at "side"))
  | ((with_reducible apply ro_div) <;> (walk_at "side"))
  | ((with_reducible apply ro_divW) <;> (walk_at "side"))
  | with_reducible exact ro_1012
  | with_reducible exact ro_1015
  | ((with_reducible apply ro_mulL) <;> (walk_at "side"))
  | ((with_reducible apply ro_mulR) <;> (walk_at "side"))
  | ((with_reducible apply ro_addC); (walk_at "side"))
  | ((with_reducible apply ro_ixC) <;> (walk_at "side"))
  | ((with_reducible apply ro_ixI) <;> (walk_at "side"))
  | ((with_reducible apply ro_ixIN) <;> (walk_at "side"))
  | ((with_reducible apply ro_ixT2) <;> (walk_at "side"))
  | ((with_reducible apply ro_ixG) <;> (walk_at "side"))
  | ((with_reducible apply ro_eq); exact rfl)
  | ((with_reducible apply ro_ne); exact rfl)
  | with_reducible exact ro_isN
  | with_reducible exact ro_notN
  | with_reducible exact ro_eqL
  | with_reducible exact ro_neL
  | with_reducible exact ro_eqU
  | ((with_reducible apply ro_cat); (walk_at "side"))
  | with_reducible exact ro_inLi
  | with_reducible exact ro_inNi
  | with_reducible exact ro_inUi
  | ((with_reducible apply ro_inL) <;> (walk_at "side"))
  | ((with_reducible apply ro_inN) <;> (walk_at "side"))
  | ((with_reducible apply ro_inU) <;> (walk_at "side"))))
local macro_rules | `(tactic| walk_at "rc") => `(tactic| (first
  | with_reducible exact rc_int
  | with_reducible exact rc_intB
  | with_reducible exact rc_max2
  | ((with_reducible apply rc_lenC); (walk_at "side"))
  | with_reducible exact rc_lenI
  | with_reducible exact rc_lenT
  | with_reducible exact rc_lenIN
  | with_reducible exact rc_lenTN
  | with_reducible exact rc_lenL
  | with_reducible exact rc_lenN
  | with_reducible exact rc_lenU
  | with_reducible exact rc_listL
  | with_reducible exact rc_listU
  | with_reducible exact rc_tupL
  | with_reducible exact rc_tupN
  | ((with_reducible apply rc_isi_int); decide +kernel)
  | ((with_reducible apply rc_isi_str); decide +kernel)
  | ((with_reducible apply rc_isi_bl); decide +kernel)
  | ((with_reducible apply rc_isi_non); decide +kernel)
  | ((with_reducible apply rc_isi_u); decide +kernel)
  | ((with_reducible apply rc_isi_l); decide +kernel)))
local macro_rules | `(tactic| walk_at "er") => `(tactic| (first
  | ((with_reducible apply er_var); (exact rfl); assumption)
  | ((with_reducible apply er_v); exact rfl)
  | with_reducible exact er_c
  | ((with_reducible apply er_pick); (walk_at "er"); (walk_at "er"); (walk_at "er"))
  | ((with_reducible apply er_op); (walk_at "er"); (walk_at "er"); (walk_at "ro"))
  | ((with_reducible apply er_cb); (walk_at "era"); (walk_at "rc"))
  | ((with_reducible apply er_lst'); (walk_at "era"); (exact rfl); (walk_at "side"))
  | ((with_reducible apply er_tup'); (walk_at "era"); (exact rfl); (walk_at "side"))
  | ((with_reducible apply er_notV); (walk_at "er"))
  | ((with_reducible apply er_andV); (walk_at "er"); (intro _; (walk_at "er")))
  | ((with_reducible apply er_orV); (walk_at "er"); (intro _; (walk_at "er")))
  | ((with_reducible apply er_ite); (walk_at "et"); (intro _; (walk_at "er")); (intro _; (walk_at "er")))))
local macro_rules | `(tactic| walk_at "era") => `(tactic| (first
  | with_reducible exact era_nil
  | ((with_reducible apply era_cons); (walk_at "er"); (walk_at "era"))))
local macro_rules | `(tactic| walk_at "et") => `(tactic| (first
  | ((with_reducible apply et_an); (walk_at "et"); (intro _; (walk_at "et")))
  | ((with_reducible apply et_orr); (walk_at "et"); (intro _; (walk_at "et")))
  | ((with_reducible apply et_nt); (walk_at "et"))
  | ((with_reducible apply et1); (walk_at "er"))
  | ((with_reducible apply et2); (walk_at "er"))))

section
variable {P : Program} {w : World} {K : PySem.W.Frag} {mg : Str → Option Value} {base : Heap}

theorem numsS_ok {ns : List Int} {at_ many : Nat} : ∀ n ∈ numsS ns at_ many, 0 ≤ n ∧ n < (many : Int) := by
  intro n hn
  unfold numsS numM at hn
  have b0 : 0 ≤ (digM (cellM ns (at_ + 1)) szNum).getD 0 0 ∧ (digM (cellM ns (at_ + 1)) szNum).getD 0 0 < 8 := digM_bd szNum_pos (i := 0) (by decide)
  have hc := cntM_le (many := many) b0.1 b0.2
  obtain ⟨k, hk, rfl⟩ := List.mem_map.mp hn
  have hk' := List.mem_range.mp hk
  have hm := hc.2 (by omega)
  exact ⟨Int.emod_nonneg _ (by omega), Int.emod_lt_of_pos _ (by omega)⟩
theorem getD_ones {l : List Nat} {j : Nat} (q : j < l.length) : (l.map fun c => [c]).getD j [] = [l.getD j 0] := by
  rw [List.getD_eq_getElem?_getD, List.getD_eq_getElem?_getD, List.getElem?_map, List.getElem?_eq_getElem q]
  rfl
structure SceneOk (size : Nat) (ik : List Nat) (st : List (List Nat × List Nat)) : Prop where
  s1 : 1 ≤ size
  s2 : size ≤ 30
  inks : InksOk ik
  few : st.length ≤ 100
  txt : ∀ p ∈ st, p.2.length = size
abbrev lotE (size : Nat) (ik : List Nat) (st : List (List Nat × List Nat)) : Dd := .L [.i (size : Int), .s (S ik), .L (stD st)]
abbrev sp__law_scene (K : PySem.W.Frag) : Sp := spR K (fun a : List Int × Nat × Nat × List Nat × List (List Nat × List Nat) => a.1.length ≤ 63 ∧ a.2.1 ≤ 500 ∧ SceneOk a.2.2.1 a.2.2.2.1 a.2.2.2.2) (fun a => [.l (vis a.1), .i (a.2.1 : Int), lotE a.2.2.1 a.2.2.2.1 a.2.2.2.2]) fun a => sceneD a.1 a.2.1 a.2.2.1 a.2.2.2.1 a.2.2.2.2
theorem dim_step {ns : List Int} {at_ : Nat} {n : Int} {size : Nat} {x : List Nat} : dimM ns at_ n size x = if decide (n < 2) = true then dashM x (digM (cellM ns at_) (List.replicate size 6)) (if decide (n = 0) = true then 3 else 1) else x := by
  unfold dimM
  by_cases h : n < 2
  · rw [if_pos h, decide_eq_true h, if_pos rfl]
  · rw [if_neg h, decide_eq_false h, if_neg Bool.false_ne_true]
theorem has__law_scene (T : Txt K mg) (h : At K mg "_law_scene" s__law_scene ["script", "at", "lot"]) (C__law_cell : Has P w K mg base 1 "_law_cell" ["script", "k"] (sp__law_cell K)) (C__law_digits : Has P w K mg base 1 "_law_digits" ["cell", "sizes"] (sp__law_digits K)) (C__law_numbers : Has P w K mg base 1 "_law_numbers" ["many", "line"] (sp__law_numbers K)) (C__law_sheet : Has P w K mg base 1 "_law_sheet" ["menu", "line", "size"] (sp__law_sheet K)) (C__law_press : Has P w K mg base 1 "_law_press" ["one", "two"] (sp__law_press K)) (C__law_dashed : Has P w K mg base 1 "_law_dashed" ["layer", "line", "much"] (sp__law_dashed K)) : Has P w K mg base 2 "_law_scene" ["script", "at", "lot"] (sp__law_scene K) := by
  refine h.hasR sc__law_scene (fun _ => rfl) fun f cdv A outer s H a vs Q E hr hp hv hk => ?_
  obtain ⟨ns, at_, size, ik, st⟩ := a
  obtain ⟨h1, h2, hS⟩ := hp
  replace h1 : ns.length ≤ 63 := h1
  replace h2 : at_ ≤ 500 := h2
  replace hS : SceneOk size ik st := hS
  have z1 := hS.s1
  have z2 := hS.s2
  have few := hS.few
  rcases hv with _ | ⟨⟨p, rfl, hs0⟩, _ | ⟨rfl, _ | ⟨hl, _ | _⟩⟩⟩
  rename_i vl
  replace hl : Is K H (lotE size ik st) vl := hl
  have hs : Is K H (.l (vis ns)) (.ref p) := ⟨p, rfl, hs0⟩
  have sc := sc__law_scene
  refine ⟨_, (pss_cons (ps_set (i := 3) sc.nd rfl (Or.inl rfl) (pe_ix (ix_list_k (K := K)) (pv 2) pe_int (fun _ _ => rfl)))
    (pss_cons (ps_set (i := 4) sc.nd rfl (Or.inl rfl) (pe_callH C__law_digits (hr.mono (by decide)) (pa_cons (pe_callH C__law_cell (hr.mono (by decide)) (pa_cons (pv 0) (pa_cons (pv 1) pa_nil))) (pa_cons (pe_op op_cat (pe_lst (pa_cons pe_int (pa_cons pe_int (pa_cons pe_int (pa_cons pe_int (pa_cons pe_int (pa_cons pe_int (pa_cons pe_int (pa_cons pe_int pa_nil))))))))) (pe_op op_rep (pe_lst (pa_cons pe_int pa_nil)) pe_int)) pa_nil))))
    (pss_cons (ps_set (i := 5) sc.nd rfl (Or.inl rfl) (pe_callH C__law_numbers (hr.mono (by decide)) (pa_cons (pe_callB (cr_len_k (K := K)) (by rfl) T.b_len (by decide +kernel) (pa_cons (pe_ix (ix_list_k (K := K)) (pv 2) pe_int (fun _ _ => rfl)) pa_nil)) (pa_cons (pe_callH C__law_digits (hr.mono (by decide)) (pa_cons (pe_callH C__law_cell (hr.mono (by decide)) (pa_cons (pv 0) (pa_cons (pe_op op_add (pv 1) pe_int) pa_nil))) (pa_cons (pe_op op_cat (pe_lst (pa_cons pe_int (pa_cons pe_int pa_nil))) (pe_op op_rep (pe_lst (pa_cons pe_int pa_nil)) pe_int)) pa_nil))) pa_nil))))
    (pss_cons (ps_set (i := 6) sc.nd rfl (Or.inl rfl) (pe_op op_addS (pe_ix (ix_list_k (K := K)) (pv 2) pe_int (fun _ _ => rfl)) (pe_ix (ix_list_k (K := K)) (pe_lc (own := [("sign", 13)]) (g := gName 13) (by rfl) sc.nd (pi_str (pe_strS [46, 97, 98, 99, 100, 101, 102, 103, 104, 105, 106, 107, 108, 109, 110, 111, 112, 113, 114, 115, 116, 117, 118, 119, 120, 121, 122] (by rfl))) (blkOk_by (N := ["script", "at", "lot", "size", "head", "numbers", "pool", "menu", "base", "shown", "number", "spot", "other", "sign"]) (sc := defScope s__law_scene) (own := [("sign", 13)]) (by decide +kernel)) (fun _ _ _ _ _ => (pg_name (i := 13) sc.nd rfl (Or.inl rfl))) (fun _ _ _ _ _ => (pts_one (pt_cmpR op_notInS (pv 13) (pe_ix (ix_list_k (K := K)) (pv 2) pe_int (fun _ _ => rfl)) rfl))) (fun _ _ _ _ _ => (pv 13))) (pe_ix (ix_list_k (K := K)) (pv 4) pe_int (fun _ _ => rfl)) (fun _ _ => rfl))))
    (pss_cons (ps_set (i := 7) sc.nd rfl (Or.inl rfl) (pe_ix (ix_list_k (K := K)) (pe_lst (pa_cons (pe_op op_addS (pe_ix ix_str (pv 6) pe_int (fun _ _ => rfl)) (pe_slice sl_str (pv 6) po_none (po_some pe_int))) (pa_cons (pe_op op_addS (pe_op op_addS (pe_op op_addS (pe_ix ix_str (pv 6) pe_int (fun _ _ => rfl)) (pe_ix ix_str (pv 6) pe_int (fun _ _ => rfl))) (pe_ix ix_str (pv 6) pe_int (fun _ _ => rfl))) (pe_ix ix_str (pv 6) pe_int (fun _ _ => rfl))) (pa_cons (pe_op op_addS (pe_op op_addS (pe_op op_addS (pe_ix ix_str (pv 6) pe_int (fun _ _ => rfl)) (pe_ix ix_str (pv 6) pe_int (fun _ _ => rfl))) (pe_ix ix_str (pv 6) pe_int (fun _ _ => rfl))) (pe_ix ix_str (pv 6) pe_int (fun _ _ => rfl))) pa_nil)))) (pe_ix (ix_list_k (K := K)) (pv 4) pe_int (fun _ _ => rfl)) (fun _ _ => rfl)))
    (pss_cons (ps_set (i := 8) sc.nd rfl (Or.inl rfl) (pe_callH C__law_sheet (hr.mono (by decide)) (pa_cons (pv 7) (pa_cons (pe_slice (sl_list_k (K := K)) (pv 4) (po_some pe_int) (po_some pe_int)) (pa_cons (pv 3) pa_nil)))))
    (pss_cons (ps_set (i := 9) sc.nd rfl (Or.inr rfl) (pv 8))
    (pss_cons (ps_for PassesOwn.never rfl (pi_list_k (K := K) (pv 5)) (pg_name (i := 10) sc.nd rfl (Or.inl rfl)) (pss_one (ps_set (i := 9) sc.nd rfl (Or.inr rfl) (pe_callH C__law_press (hr.mono (by decide)) (pa_cons (pv 9) (pa_cons (pe_ix (ix_list_k (K := K)) (pe_ix (ix_list_k (K := K)) (pe_ix (ix_list_k (K := K)) (pv 2) pe_int (fun _ _ => rfl)) (pv 10) (fun _ _ => rfl)) pe_int (fun _ _ => rfl)) pa_nil))))))
    (pss_cons (ps_if (pt_cmpR op_lt (pe_ix (ix_list_k (K := K)) (pv 4) pe_int (fun _ _ => rfl)) pe_int (nomark _)) (pss_cons (ps_set (i := 11) sc.nd rfl (Or.inr rfl) (pe_op op_mod (pe_callTy cr_int (by rfl) T.b_int (by decide +kernel) (pa_cons (pe_ix (ix_list_k (K := K)) (pv 4) pe_int (fun _ _ => rfl)) pa_nil)) (pv 3)))
    (pss_cons (ps_set (i := 12) sc.nd rfl (Or.inl rfl) (pe_ix (ix_list_k (K := K)) (pe_lc (own := [("sign", 13)]) (g := gName 13) (by rfl) sc.nd (pi_str (pv 6)) (blkOk_by (N := ["script", "at", "lot", "size", "head", "numbers", "pool", "menu", "base", "shown", "number", "spot", "other", "sign"]) (sc := defScope s__law_scene) (own := [("sign", 13)]) (by decide +kernel)) (fun _ _ _ _ _ => (pg_name (i := 13) sc.nd rfl (Or.inl rfl))) (fun _ _ _ _ _ => (pts_one (pt_cmpR op_ne (pv 13) (pe_ix ix_str (pv 9) (pv 11) (fun _ _ => rfl)) (nomark _)))) (fun _ _ _ _ _ => (pv 13))) (pe_ix (ix_list_k (K := K)) (pv 4) pe_int (fun _ _ => rfl)) (fun _ _ => rfl)))
    (pss_one (ps_set (i := 9) sc.nd rfl (Or.inr rfl) (pe_op op_addS (pe_op op_addS (pe_slice sl_str (pv 9) po_none (po_some (pv 11))) (pv 12)) (pe_slice sl_str (pv 9) (po_some (pe_op op_add (pv 11) pe_int)) po_none)))))) pss_nil)
    (pss_cons (ps_if (pt_cmpR op_lt (pe_ix (ix_list_k (K := K)) (pv 4) pe_int (fun _ _ => rfl)) pe_int (nomark _)) (pss_one (ps_set (i := 8) sc.nd rfl (Or.inl rfl) (pe_callH C__law_sheet (hr.mono (by decide)) (pa_cons (pv 7) (pa_cons (pe_slice (sl_list_k (K := K)) (pv 4) (po_some pe_int) po_none) (pa_cons (pv 3) pa_nil)))))) pss_nil)
    (pss_cons (ps_if (pt_cmpR op_lt (pe_ix (ix_list_k (K := K)) (pv 4) pe_int (fun _ _ => rfl)) pe_int (nomark _)) (pss_one (ps_set (i := 9) sc.nd rfl (Or.inr rfl) (pe_callH C__law_dashed (hr.mono (by decide)) (pa_cons (pv 9) (pa_cons (pe_callH C__law_digits (hr.mono (by decide)) (pa_cons (pe_callH C__law_cell (hr.mono (by decide)) (pa_cons (pv 0) (pa_cons (pe_op op_add (pv 1) pe_int) pa_nil))) (pa_cons (pe_op op_rep (pe_lst (pa_cons pe_int pa_nil)) (pv 3)) pa_nil))) (pa_cons (pe_cmpR op_eq (pe_ix (ix_list_k (K := K)) (pv 4) pe_int (fun _ _ => rfl)) pe_int (nomark _)) pa_nil)))))) pss_nil)
    (pss_cons (ps_if (pt_cmpR op_lt (pe_ix (ix_list_k (K := K)) (pv 4) pe_int (fun _ _ => rfl)) pe_int (nomark _)) (pss_one (ps_set (i := 8) sc.nd rfl (Or.inl rfl) (pe_callH C__law_dashed (hr.mono (by decide)) (pa_cons (pv 8) (pa_cons (pe_callH C__law_digits (hr.mono (by decide)) (pa_cons (pe_callH C__law_cell (hr.mono (by decide)) (pa_cons (pv 0) (pa_cons (pe_op op_add (pv 1) pe_int) pa_nil))) (pa_cons (pe_op op_rep (pe_lst (pa_cons pe_int pa_nil)) (pv 3)) pa_nil))) (pa_cons (pe_cmpR op_eq (pe_ix (ix_list_k (K := K)) (pv 4) pe_int (fun _ _ => rfl)) pe_int (nomark _)) pa_nil)))))) pss_nil)
    (pss_one (ps_ret (pe_lst (pa_cons (pv 8) (pa_cons (pv 9) (pa_cons (pv 5) pa_nil)))))))))))))))))), ?_⟩
  have hk : ∀ v H', Ex H H' → Is K H' (sceneD ns at_ size ik st) v → Q v H' := hk
  unfold sceneD at hk
  have gsize : ∀ {te : TE} {σ : L2.St} {H : Hp}, Er K te σ H (lotE size ik st) → Er K (tOp (rIxL K) te (tC (.int 0))) σ H (.i (size : Int)) := fun {te σ H} q => er_place (i := 0) q er_c rfl
  have ginks : ∀ {te : TE} {σ : L2.St} {H : Hp}, Er K te σ H (lotE size ik st) → Er K (tOp (rIxL K) te (tC (.int 1))) σ H (.s (S ik)) := fun {te σ H} q => er_place (i := 1) q er_c rfl
  have gst : ∀ {te : TE} {σ : L2.St} {H : Hp}, Er K te σ H (lotE size ik st) → Er K (tOp (rIxL K) te (tC (.int 2))) σ H (.L (stD st)) := fun {te σ H} q => er_place (i := 2) q er_c rfl
  have lal : alls.length = 27 := rfl
  refine' a_setv (K := K) (x := .int (size : Int)) (gsize (er_var rfl hl)) ?g1
  intro H1 e1
  have hs1 := hs.mono e1
  -- head
  refine' a_asg (K := K) (d := .n (vis (headS ns at_))) (er_call (K := K) (cellM ns at_, szSc) (era_cons (er_call (K := K) (ns, at_) (era_cons (er_var rfl hs1) (era_cons (er_v rfl) era_nil)) rfl ⟨h1, by show at_ ≤ 1000; omega⟩) (era_cons (Er.n2l (Er.to (er_op (er_lst (vs := vis [8, 8, 6, 6, 30, 3, 3, 24]) ?g2 (by decide)) (er_same (n := 4) (k := 60) er_c (by decide)) (ro_cat (by simp))) ?g3)) era_nil)) rfl ⟨szSc_few, szSc_bd⟩) ?g4
  case g2 => repeat (first | exact era_nil | refine era_cons er_c ?_)
  case g3 => rfl
  intro vh H2 e2 hh2
  have c5 : 0 ≤ (headS ns at_).getD 5 0 ∧ (headS ns at_).getD 5 0 < 3 := digM_bd szSc_pos (i := 5) (by decide)
  have c6 : 0 ≤ (headS ns at_).getD 6 0 ∧ (headS ns at_).getD 6 0 < 3 := digM_bd szSc_pos (i := 6) (by decide)
  have c7 : 0 ≤ (headS ns at_).getD 7 0 ∧ (headS ns at_).getD 7 0 < 24 := digM_bd szSc_pos (i := 7) (by decide)
  have hlen : (headS ns at_).length = 68 := by unfold headS; rw [digM_len]; rfl
  generalize headS ns at_ = hd at hh2 c5 c6 c7 hlen hk
  have athd : ∀ {te : TE} {σ : L2.St} {H : Hp} {j : Nat}, Er K te σ H (.n (vis hd)) → j < 68 → Er K (tOp (rIxL K) te (tC (.int (j : Int)))) σ H (.i (hd.getD j 0)) := fun {te σ H j} q hj => er_numN q er_c (by omega)
  have hs2 := hs1.mono e2
  have hl2 := (hl.mono e1).mono e2
  -- numbers
  have lnum : 9 ≤ (digM (cellM ns (at_ + 1)) szNum).length := by rw [digM_len]; decide
  have bnum : 0 ≤ (digM (cellM ns (at_ + 1)) szNum).getD 0 0 ∧ (digM (cellM ns (at_ + 1)) szNum).getD 0 0 < 8 := digM_bd szNum_pos (i := 0) (by decide)
  refine' a_asg (K := K) (d := .n (vis (numsS ns at_ st.length))) (er_call (K := K) (st.length, digM (cellM ns (at_ + 1)) szNum) (ds := [.i (st.length : Int), .l (vis (digM (cellM ns (at_ + 1)) szNum))]) (era_cons (Er.to (er_cb (era_cons (gst (er_var rfl hl2)) era_nil) rc_lenLd) ?g5) (era_cons (Er.n2l (er_call (K := K) (cellM ns (at_ + 1), szNum) (era_cons (er_call (K := K) (ns, at_ + 1) (ds := [.l (vis ns), .i ((at_ + 1 : Nat) : Int)]) (era_cons (er_var rfl hs2) (era_cons (er_op (er_v rfl) er_c ro_I0) era_nil)) rfl ⟨h1, by show at_ + 1 ≤ 1000; omega⟩) (era_cons (Er.n2l (Er.to (er_op (er_lst (vs := vis [8, 2]) ?g6 (by decide)) (er_same (n := 60) (k := 7) er_c (by decide)) (ro_cat (by simp))) ?g7)) era_nil)) rfl ⟨szNum_few, szNum_bd⟩)) era_nil)) rfl ⟨by show st.length ≤ 1000; omega, lnum, bnum⟩) ?g8
  case g5 => rw [stD_len]
  case g6 => repeat (first | exact era_nil | refine era_cons er_c ?_)
  case g7 => rfl
  intro vn H3 e3 hn3
  obtain ⟨pn, rfl, hpn⟩ := hn3
  have nok := numsS_ok (ns := ns) (at_ := at_) (many := st.length)
  generalize numsS ns at_ st.length = nums at hpn nok hk
  have hh3 := hh2.mono e3
  have hl3 := hl2.mono e3
  have hs3 := hs2.mono e3
  -- pool
  have lik := hS.inks.len
  have lo := others_len hS.inks
  obtain ⟨lp, np⟩ := pool_ok hS.inks c7
  refine' a_setv (K := K) (x := .str (S (poolM ik hd))) (er_op (d1 := .s (S ik)) (d2 := .s (S [(othersM ik).getD (hd.getD 7 0).toNat 0])) (ginks (er_var rfl hl3)) ?g9 (ro_addC (by simp; omega))) ?g10
  case g9 =>
    refine Er.to (er_op (d2 := .i (hd.getD 7 0)) (Er.to (c_lcS (K := K) (z := alls) (vs := [13]) (fun c => !decide (c ∈ ik)) (fun c => V.str (S [c])) er_c (by decide) (fun _ => rfl) ?g11 ?g12) ?g13) (athd (j := 7) (er_var rfl hh3) (by decide)) (ro_ixSN (L := (othersM ik).map fun c => [c]) c7.1 (by rw [List.length_map]; omega))) ?g14
    case g11 =>
      intro i c H4 e4 hc
      exact et1 (er_op (d1 := .s (S [c])) (d2 := .s (S ik)) (er_v rfl) (ginks (er_var rfl (hl3.mono e4))) (ro_niS (c := c)))
    case g12 =>
      intro i c H4 e4 hc _
      exact er_v rfl
    case g13 =>
      show Dd.n ((othersM ik).map fun c => V.str (S [c])) = Dd.n (vsl ((othersM ik).map fun c => [c]))
      rw [vsl, vss, List.map_map, List.map_map]
      rfl
    case g14 =>
      have q : (hd.getD 7 0).toNat < (othersM ik).length := by omega
      generalize (hd.getD 7 0).toNat = j at q ⊢
      rw [List.getD_eq_getElem?_getD, List.getD_eq_getElem?_getD, List.getElem?_map, List.getElem?_eq_getElem q]
      rfl
  intro H4 e4
  have hh4 := hh3.mono e4
  obtain ⟨pl, hpl⟩ : ∃ pl, pl = poolM ik hd := ⟨_, rfl⟩
  rw [← hpl] at lp np ⊢
  -- menu
  have pk : ∀ {σ : L2.St} {H : Hp} {j : Nat}, σ[6]? = some (some (.str (S pl))) → j < 4 → Er K (tOp rIxS (tVar 6) (tC (.int (j : Int)))) σ H (.s (S [pl.getD j 0])) := fun {σ H j} q hj => er_sign (er_v q) er_c (by omega) (by omega)
  refine' a_setv (K := K) (x := .str (S (scMenu pl hd))) (er_op (d2 := .i (hd.getD 6 0)) (er_lst (vs := vsl (scMenus pl)) (era_cons ?m1 (era_cons ?m2 (era_cons ?m3 era_nil))) (by simp [scMenus, vss])) (athd (j := 6) (er_var rfl hh4) (by decide)) (ro_ixSN c6.1 (by show _ < ((3 : Nat) : Int); exact c6.2))) ?g15
  case m1 => exact Er.to (er_op (d1 := .s (S [pl.getD 0 0])) (d2 := .s (S (pl.take 3))) (pk (j := 0) rfl (by decide)) (er_slTo (n := 3) (er_v rfl) (by omega) er_c) (ro_addC (by simp; omega))) rfl
  case m2 => exact Er.to (er_op (er_op (er_op (pk (j := 3) rfl (by decide)) (pk (j := 3) rfl (by decide)) (ro_addC (by simp))) (pk (j := 3) rfl (by decide)) (ro_addC (by simp))) (pk (j := 0) rfl (by decide)) (ro_addC (by simp))) rfl
  case m3 => exact Er.to (er_op (er_op (er_op (pk (j := 3) rfl (by decide)) (pk (j := 3) rfl (by decide)) (ro_addC (by simp))) (pk (j := 3) rfl (by decide)) (ro_addC (by simp))) (pk (j := 1) rfl (by decide)) (ro_addC (by simp))) rfl
  intro H5 e5
  have hh5 := hh4.mono e5
  have lmenu : (scMenu pl hd).length = 4 := by
    unfold scMenu
    have q : (hd.getD 6 0).toNat < 3 := by omega
    generalize (hd.getD 6 0).toNat = j at q
    rcases j with _ | _ | _ | j
    · show ([pl.getD 0 0] ++ pl.take 3).length = 4
      rw [List.length_append, List.length_take, lp]
      rfl
    · rfl
    · rfl
    · omega
  -- base, shown
  have eb : base0 hd ik size = pickM (scMenu pl hd) 4 ((hd.drop 8).take 30) size := by
    unfold base0
    rw [hpl]
  have lb0 : (base0 hd ik size).length = size := by rw [eb]; exact pickM_len
  refine' a_setv (K := K) (x := .str (S (base0 hd ik size))) (Er.to (er_call (K := K) (scMenu pl hd, (hd.drop 8).take 30, size) (ds := [.s (S (scMenu pl hd)), .l (vis ((hd.drop 8).take 30)), .i (size : Int)]) (era_cons (er_v rfl) (era_cons (Er.n2l (er_slvMid (n := 8) (m := 38) (Er.n2l (er_var rfl hh5)) er_c er_c (by decide) (by omega))) (era_cons (er_v rfl) era_nil))) rfl ⟨by show 4 ≤ (scMenu pl hd).length; omega, by show (scMenu pl hd).length ≤ 1000; omega, by show size ≤ ((hd.drop 8).take 30).length; rw [List.length_take, List.length_drop, hlen]; omega, by show size ≤ 1000; omega⟩) (by rw [eb])) ?g16
  intro H6 e6
  refine' a_setv (K := K) (x := .str (S (base0 hd ik size))) (er_v rfl) ?g17
  intro H7 e7
  have E37 : Ex H3 H7 := e4.trans (e5.trans (e6.trans e7))
  have hh7 := hh3.mono E37
  have hl7 := hl3.mono E37
  have hs7 := hs3.mono E37
  have E7 : Ex H H7 := e1.trans (e2.trans (e3.trans E37))
  refine b_forA (K := K) (a := pn) (xs := vis nums) (er_v rfl) (sq_of (E37 pn _ hpn)) (fun i σ' H' => ∃ y, σ' = [some (.ref p), some (.int (at_ : Int)), some vl, some (.int (size : Int)), some vh, some (.ref pn), some (.str (S pl)), some (.str (S (scMenu pl hd))), some (.str (S (base0 hd ik size))), some (.str (S (runM st (base0 hd ik size) (nums.take i)))), y, none, none, none] ∧ Ex H7 H') (fun H8 e8 => ⟨none, rfl, e8⟩) (fun i σ' H' _ ⟨_, _, e⟩ => sq_of (e pn _ (E37 pn _ hpn))) ?k1 ?k2
  case k1 =>
    rintro i x σ' H' hx ⟨y, rfl, e⟩
    obtain ⟨n, hn, rfl⟩ := vis_at hx
    have q := nok n (List.mem_of_getElem? hn)
    have en : ((n.toNat : Nat) : Int) = n := Int.toNat_of_nonneg q.1
    have hn2 : n.toNat < st.length := by omega
    have hp2 : st[n.toNat]? = some (st.getD n.toNat ([], [])) := by
      rw [List.getD_eq_getElem?_getD, List.getElem?_eq_getElem hn2]
      rfl
    have lt := hS.txt _ (getD_memL (z := ([], [])) hn2)
    have lr : (runM st (base0 hd ik size) (nums.take i)).length = size := runM_len hS.txt (fun m hm => nok m (List.mem_of_mem_take hm)) lb0
    refine' a_setv1 (K := K) (x := .str (S (runM st (base0 hd ik size) (nums.take (i + 1))))) (Er.to (er_call (K := K) (runM st (base0 hd ik size) (nums.take i), (st.getD n.toNat ([], [])).2) (ds := [.s (S (runM st (base0 hd ik size) (nums.take i))), .s (S (st.getD n.toNat ([], [])).2)]) (era_cons (er_v rfl) (era_cons (er_place (i := 1) (er_place (i := n.toNat) (gst (er_var rfl (hl7.mono e))) (Er.to (er_v rfl) (congrArg Dd.i en.symm)) (stD_at hp2)) er_c rfl) era_nil)) rfl ⟨by show (runM _ _ _).length = (st.getD n.toNat ([], [])).2.length; omega, by show (runM _ _ _).length ≤ 1000; omega⟩) (by rw [runM_next hn])) ?k3
    intro H8 e8
    exact ⟨_, rfl, e.trans e8⟩
  case k2 =>
    rintro σ' H' ⟨y, rfl, e⟩
    rw [List.length_map, List.take_length]
    have lr : (runM st (base0 hd ik size) nums).length = size := runM_len hS.txt nok lb0
    have hh' := hh7.mono e
    refine a_whenR (K := K) (fun σ2 H2 => ∃ y1 y2 y3 y4, σ2 = [some (.ref p), some (.int (at_ : Int)), some vl, some (.int (size : Int)), some vh, some (.ref pn), some (.str (S pl)), some (.str (S (scMenu pl hd))), some (.str (S (base0 hd ik size))), some (.str (S (shown1 hd ik size st nums))), y1, y2, y3, y4] ∧ Ex H7 H2) (et1 (er_op (athd (j := 0) (er_var rfl hh') (by decide)) er_c ro_I0)) ?r1 ?r2 ?r3
    case r3 =>
      intro hb H2 e2
      refine ⟨y, none, none, none, ?_, e.trans e2⟩
      unfold shown1
      rw [if_neg (of_decide_eq_false hb)]
    case r2 =>
      intro hr2 hb H2 e2
      have hh2 := hh'.mono e2
      have q0 : 0 ≤ hd.getD 4 0 % (size : Int) := Int.emod_nonneg _ (by omega)
      have q1 : hd.getD 4 0 % (size : Int) < (size : Int) := Int.emod_lt_of_pos _ (by omega)
      have q2 : (((hd.getD 4 0 % (size : Int)).toNat : Nat) : Int) = hd.getD 4 0 % (size : Int) := Int.toNat_of_nonneg q0
      refine' a_setv (K := K) (x := .int (((hd.getD 4 0 % (size : Int)).toNat : Nat) : Int)) (Er.to (er_op (er_cb (era_cons (athd (j := 4) (er_var rfl hh2) (by decide)) era_nil) rc_int) (er_v rfl) (ro_mod (by omega))) (congrArg Dd.i q2.symm)) ?u1
      intro H3 e3
      have q3 : (hd.getD 4 0 % (size : Int)).toNat < size := by omega
      have esp : spoilM pl hd size (runM st (base0 hd ik size) nums) = (runM st (base0 hd ik size) nums).take (hd.getD 4 0 % (size : Int)).toNat ++ [(restM pl ((runM st (base0 hd ik size) nums).getD (hd.getD 4 0 % (size : Int)).toNat 0)).getD (hd.getD 5 0).toNat 0] ++ (runM st (base0 hd ik size) nums).drop ((hd.getD 4 0 % (size : Int)).toNat + 1) := rfl
      generalize (hd.getD 4 0 % (size : Int)).toNat = sp at q3 esp
      have lrest := keep_one np ((runM st (base0 hd ik size) nums).getD sp 0)
      have hh3' := hh2.mono e3
      refine' a_setv (K := K) (x := .str (S [(restM pl ((runM st (base0 hd ik size) nums).getD sp 0)).getD (hd.getD 5 0).toNat 0])) (Er.to (er_op (d2 := .i (hd.getD 5 0)) (Er.to (c_lcS (K := K) (z := pl) (vs := [13]) (fun c => !decide (c = (runM st (base0 hd ik size) nums).getD sp 0)) (fun c => V.str (S [c])) (er_v rfl) (by omega) (fun _ => rfl) ?u2 ?u3) ?u4) (athd (j := 5) (er_var rfl hh3') (by decide)) (ro_ixSN (L := (restM pl ((runM st (base0 hd ik size) nums).getD sp 0)).map fun c => [c]) c5.1 (by rw [List.length_map]; unfold restM; omega))) ?u5) ?u6
      case u2 =>
        intro i c H4 e4 hc
        refine Et.to (K := K) (et1 (er_op (d2 := .s (S [(runM st (base0 hd ik size) nums).getD sp 0])) (er_v rfl) (er_sign (er_v rfl) (er_v rfl) (by omega) (by omega)) ro_neC)) ?_
        simp
      case u3 =>
        intro i c H4 e4 hc _
        exact er_v rfl
      case u4 =>
        show Dd.n ((restM pl ((runM st (base0 hd ik size) nums).getD sp 0)).map fun c => V.str (S [c])) = Dd.n (vsl ((restM pl ((runM st (base0 hd ik size) nums).getD sp 0)).map fun c => [c]))
        rw [vsl, vss, List.map_map, List.map_map]
        rfl
      case u5 =>
        have q : (hd.getD 5 0).toNat < (restM pl ((runM st (base0 hd ik size) nums).getD sp 0)).length := by unfold restM; omega
        rw [getD_ones q]
      intro H4 e4
      refine' a_setv1 (K := K) (x := .str (S (spoilM pl hd size (runM st (base0 hd ik size) nums)))) (Er.to (er_op (K := K) (d1 := .s (S ((runM st (base0 hd ik size) nums).take sp ++ [(restM pl ((runM st (base0 hd ik size) nums).getD sp 0)).getD (hd.getD 5 0).toNat 0]))) (d2 := .s (S ((runM st (base0 hd ik size) nums).drop (sp + 1)))) (er_op (K := K) (d1 := .s (S ((runM st (base0 hd ik size) nums).take sp))) (d2 := .s (S [(restM pl ((runM st (base0 hd ik size) nums).getD sp 0)).getD (hd.getD 5 0).toNat 0])) (er_slTo (er_v rfl) (by omega) (er_v rfl)) (er_v rfl) (ro_addC (by simp; omega))) (er_slFrom (er_v rfl) (by omega) (er_op (er_v rfl) er_c ro_I0)) (ro_addC (by simp; omega))) (by rw [esp])) ?u7
      intro H5 e5
      refine hr2 _ _ ⟨y, some (.int (sp : Int)), some (.str (S [(restM pl ((runM st (base0 hd ik size) nums).getD sp 0)).getD (hd.getD 5 0).toNat 0])), none, ?_, e.trans (e2.trans (e3.trans (e4.trans e5)))⟩
      unfold shown1
      rw [if_pos (of_decide_eq_true hb), ← hpl]
      rfl
    case r1 =>
      rintro σ2 H2 ⟨y1, y2, y3, y4, rfl, e2⟩
      have hh2 := hh7.mono e2
      have hs2' := hs7.mono e2
      have q0 : 0 ≤ hd.getD 4 0 % (size : Int) := Int.emod_nonneg _ (by omega)
      have q1 : hd.getD 4 0 % (size : Int) < (size : Int) := Int.emod_lt_of_pos _ (by omega)
      have ls : (shown1 hd ik size st nums).length = size := by
        unfold shown1
        split
        · have q3 : (hd.getD 4 0 % (size : Int)).toNat < size := by omega
          unfold spoilM
          generalize (hd.getD 4 0 % (size : Int)).toNat = sp at q3 ⊢
          rw [List.length_append, List.length_append, List.length_take, List.length_drop, lr, List.length_singleton]
          omega
        · exact lr
      have lb1 : (base1 hd ik size).length = size := by
        unfold base1
        split
        · exact pickM_len
        · exact lb0
      have bd6 : ∀ s ∈ List.replicate size (6 : Int), 0 < s ∧ s < 1000000 := fun s hs => by
        rw [(List.mem_replicate.mp hs).2]
        decide
      have e06 : vis (List.replicate size 6) = (List.replicate size [V.int 6]).flatten := by
        rw [vis, List.map_replicate, List.flatten_replicate_singleton]
      have dig : ∀ {σ : L2.St} {H : Hp} {j : Nat}, σ[0]? = some (some (.ref p)) → σ[1]? = some (some (.int (at_ : Int))) → σ[3]? = some (some (.int (size : Int))) → Is K H (.l (vis ns)) (.ref p) → j ≤ 5 → Er K (tCall (sp__law_digits K) [] E0 (tCons (tCall (sp__law_cell K) [] E0 (tCons (tVar 0) (tCons (tOp (rI0 fun i j => .int (i + j)) (tVar 1) (tC (.int (j : Int)))) tNil))) (tCons (tOp rRep (tLst (tCons (tC (.int 6)) tNil)) (tVar 3)) tNil))) σ H (.n (vis (digM (cellM ns (at_ + j)) (List.replicate size 6)))) := fun {σ H j} x0 x1 x3 xs hj => er_call (K := K) (cellM ns (at_ + j), List.replicate size 6) (ds := [.i (cellM ns (at_ + j)), .l (vis (List.replicate size 6))]) (era_cons (er_call (K := K) (ns, at_ + j) (ds := [.l (vis ns), .i ((at_ + j : Nat) : Int)]) (era_cons (er_var x0 xs) (era_cons (er_op (er_v x1) er_c ro_I0) era_nil)) rfl ⟨h1, by show at_ + j ≤ 1000; omega⟩) (era_cons (Er.n2l (by rw [e06]; exact er_op (er_lst (vs := [.int 6]) (era_cons er_c era_nil) (by simp)) (er_v x3) (ro_rep (by simp; omega) (by omega)))) era_nil)) rfl ⟨by show (List.replicate size (6 : Int)).length ≤ 1000; rw [List.length_replicate]; omega, bd6⟩
      have ldig : ∀ j, (digM (cellM ns j) (List.replicate size 6)).length = size := fun j => by rw [digM_len, List.length_replicate]
      refine' a_ifSetS (K := K) (c := pickM (scMenu pl hd) 4 (hd.drop 38) size) (e := base0 hd ik size) (b := decide (hd.getD 1 0 < 2)) (et1 (er_op (athd (j := 1) (er_var rfl hh2) (by decide)) er_c ro_I0)) (fun _ => er_call (K := K) (scMenu pl hd, hd.drop 38, size) (ds := [.s (S (scMenu pl hd)), .l (vis (hd.drop 38)), .i (size : Int)]) (era_cons (er_v rfl) (era_cons (Er.n2l (er_slvFrom (n := 38) (Er.n2l (er_var rfl hh2)) er_c)) (era_cons (er_v rfl) era_nil))) rfl ⟨by show 4 ≤ (scMenu pl hd).length; omega, by show (scMenu pl hd).length ≤ 1000; omega, by show size ≤ (hd.drop 38).length; rw [List.length_drop, hlen]; omega, by show size ≤ 1000; omega⟩) rfl ?w1
      intro H3 e3
      have ebase : (if decide (hd.getD 1 0 < 2) = true then pickM (scMenu pl hd) 4 (hd.drop 38) size else base0 hd ik size) = base1 hd ik size := by
        unfold base1
        rw [← hpl]
        by_cases q : hd.getD 1 0 < 2
        · rw [if_pos q, decide_eq_true q, if_pos rfl]
        · rw [if_neg q, decide_eq_false q, if_neg Bool.false_ne_true]
      rw [ebase]
      have hh3' := hh2.mono e3
      have hs3' := hs2'.mono e3
      refine' a_ifSetS (K := K) (c := dashM (shown1 hd ik size st nums) (digM (cellM ns (at_ + 2)) (List.replicate size 6)) (if decide (hd.getD 2 0 = 0) = true then 3 else 1)) (e := shown1 hd ik size st nums) (b := decide (hd.getD 2 0 < 2)) (et1 (er_op (athd (j := 2) (er_var rfl hh3') (by decide)) er_c ro_I0)) (fun _ => er_call (K := K) (shown1 hd ik size st nums, digM (cellM ns (at_ + 2)) (List.replicate size 6), decide (hd.getD 2 0 = 0)) (ds := [.s (S (shown1 hd ik size st nums)), .l (vis (digM (cellM ns (at_ + 2)) (List.replicate size 6))), .b (decide (hd.getD 2 0 = 0))]) (era_cons (er_v rfl) (era_cons (Er.n2l (dig (j := 2) rfl rfl rfl hs3' (by decide))) (era_cons (er_op (athd (j := 2) (er_var rfl hh3') (by decide)) er_c ro_eqI) era_nil))) rfl ⟨by show (shown1 hd ik size st nums).length ≤ (digM _ _).length; rw [ldig]; omega, by show (shown1 hd ik size st nums).length ≤ 1000; omega⟩) rfl ?w2
      intro H4 e4
      rw [← dim_step]
      have hh4' := hh3'.mono e4
      have hs4' := hs3'.mono e4
      refine' a_ifSetS (K := K) (c := dashM (base1 hd ik size) (digM (cellM ns (at_ + 3)) (List.replicate size 6)) (if decide (hd.getD 3 0 = 0) = true then 3 else 1)) (e := base1 hd ik size) (b := decide (hd.getD 3 0 < 2)) (et1 (er_op (athd (j := 3) (er_var rfl hh4') (by decide)) er_c ro_I0)) (fun _ => er_call (K := K) (base1 hd ik size, digM (cellM ns (at_ + 3)) (List.replicate size 6), decide (hd.getD 3 0 = 0)) (ds := [.s (S (base1 hd ik size)), .l (vis (digM (cellM ns (at_ + 3)) (List.replicate size 6))), .b (decide (hd.getD 3 0 = 0))]) (era_cons (er_v rfl) (era_cons (Er.n2l (dig (j := 3) rfl rfl rfl hs4' (by decide))) (era_cons (er_op (athd (j := 3) (er_var rfl hh4') (by decide)) er_c ro_eqI) era_nil))) rfl ⟨by show (base1 hd ik size).length ≤ (digM _ _).length; rw [ldig]; omega, by show (base1 hd ik size).length ≤ 1000; omega⟩) rfl ?w3
      intro H5 e5
      rw [← dim_step]
      have pe : SqL K H5 pn (vis nums) := sq_of (e5 pn _ (e4 pn _ (e3 pn _ (e2 pn _ (E37 pn _ hpn)))))
      exact a_rete (K := K) (Er.as (er_N (era_cons (er_v rfl) (era_cons (er_v rfl) (era_cons (er_var (d := .l (vis nums)) rfl ⟨pn, rfl, pe⟩) era_nil))) (by simp)) fun _ _ z => z.N2L) rfl (E7.trans (e2.trans (e3.trans (e4.trans e5)))) hk
end
end Mi

set_option maxHeartbeats 4000000
namespace Mi
open PySem PySem.Spec PyProof.Rows L2 Evl
local macro_rules | `(tactic| walk_at "side") => `(tactic| (first | assumption | omega | exact rfl | decide | (simp only [List.length_cons, List.length_nil, List.length_map, List.length_append, List.length_replicate] <;> omega)))
local macro_rules | `(tactic| walk_at "ro") => `(tactic| (first
  | with_reducible exact ro_I0
  | with_reducible exact ro_1018
  | with_reducible exact ro_neC
  | with_reducible exact ro_eqC
  | with_reducible exact ro_neI
  | with_reducible exact ro_eqI
  | with_reducible exact ro_neB
  | with_reducible exact ro_eqB
  | ((with_reducible apply ro_mod); (walk_at "side"))
  | ((with_reducible apply ro_div) <;> (walk_at "side"))
  | ((with_reducible apply ro_divW) <;> (walk_at "side"))
  | with_reducible exact ro_1012
  | with_reducible exact ro_1015
  | ((with_reducible apply ro_mulL) <;> (walk_at "side"))
  | ((with_reducible apply ro_mulR) <;> (walk_at "side"))
  | ((with_reducible apply ro_addC); (walk_at "side"))
  | ((with_reducible apply ro_ixC) <;> (walk_at "side"))
  | ((with_reducible apply ro_ixI) <;> (walk_at "side"))
  | ((with_reducible apply ro_ixIN) <;> (walk_at "side"))
  | ((with_reducible apply ro_ixT2) <;> (walk_at "side"))
  | ((with_reducible apply ro_ixG) <;> (walk_at "side"))
  | ((with_reducible apply ro_eq); exact rfl)
  | ((with_reducible apply ro_ne); exact rfl)
  | with_reducible exact ro_isN
  | with_reducible exact ro_notN
  | with_reducible exact ro_eqL
  | with_reducible exact ro_neL
  | with_reducible exact ro_eqU
  | ((with_reducible apply ro_cat); (walk_at "side"))
  | with_reducible exact ro_inLi
  | with_reducible exact ro_inNi
  | with_reducible exact ro_inUi
  | ((with_reducible apply ro_inL) <;> (walk_at "side"))
  | ((with_reducible apply ro_inN) <;> (walk_at "side"))
  | ((with_reducible apply ro_inU) <;> (walk_at "side"))))
local macro_rules | `(tactic| walk_at "rc") => `(tactic| (first
  | with_reducible exact rc_int
  | with_reducible exact rc_intB
  | with_reducible exact rc_max2
  | ((with_reducible apply rc_lenC); (walk_at "side"))
  | with_reducible exact rc_lenI
  | with_reducible exact rc_lenT
  | with_reducible exact rc_lenIN
  | with_reducible exact rc_lenTN
  | with_reducible exact rc_lenL
  | with_reducible exact rc_lenN
  | with_reducible exact rc_lenU
  | with_reducible exact rc_listL
  | with_reducible exact rc_listU
  | with_reducible exact rc_tupL
  | with_reducible exact rc_tupN
  | ((with_reducible apply rc_isi_int); decide +kernel)
  | ((with_reducible apply rc_isi_str); decide +kernel)
  | ((with_reducible apply rc_isi_bl); decide +kernel)
  | ((with_reducible apply rc_isi_non); decide +kernel)
  | ((with_reducible apply rc_isi_u); decide +kernel)
  | ((with_reducible apply rc_isi_l); decide +kernel)))
local macro_rules | `(tactic| walk_at "er") => `(tactic| (first
  | ((with_reducible apply er_var); (exact rfl); assumption)
  | ((with_reducible apply er_v); exact rfl)
  | with_reducible exact er_c
  | ((with_reducible apply er_pick); (walk_at "er"); (walk_at "er"); (walk_at "er"))
  | ((with_reducible apply er_op); (walk_at "er"); (walk_at "er"); (walk_at "ro"))
  | ((with_reducible apply er_cb); (walk_at "era"); (walk_at "rc"))
  | ((with_reducible apply er_lst'); (walk_at "era"); (exact rfl); (walk_at "side"))
  | ((with_reducible apply er_tup'); (walk_at "era"); (exact rfl); (walk_at "side"))
  | ((with_reducible apply er_notV); (walk_at "er"))
  | ((with_reducible apply er_andV); (walk_at "er"); (intro _; (walk_at "er")))
  | ((with_reducible apply er_orV); (walk_at "er"); (intro _; (walk_at "er")))
  | ((with_reducible apply er_ite); (walk_at "et"); (intro _; (walk_at "er")); (intro _; (walk_at "er")))))
local macro_rules | `(tactic| walk_at "era") => `(tactic| (first
  | with_reducible exact era_nil
  | ((with_reducible apply era_cons); (walk_at "er"); (walk_at "era"))))
local macro_rules | `(tactic| walk_at "et") => `(tactic| (first
  | ((with_reducible apply et_an); (walk_at "et"); (intro _; (walk_at "et")))
  | ((with_reducible apply et_orr); (walk_at "et"); (intro _; (walk_at "et")))
  | ((with_reducible apply et_nt); (walk_at "et"))
  | ((with_reducible apply et1); (walk_at "er"))
  | ((with_reducible apply et2); (walk_at "er"))))

section
variable {P : Program} {w : World} {K : PySem.W.Frag} {mg : Str → Option Value} {base : Heap}
/-! ### check_pairs -/
abbrev s_check_pairs : Stmt := topS 32
theorem sc_check_pairs : FnScope ["pairs", "fitting", "earlier", "index", "name", "_"] ["pairs", "fitting"] (defScope s_check_pairs) := ⟨rfl, rfl, rfl, by decide +kernel, rfl, by decide +kernel, by decide +kernel⟩

structure PairsOk (n : Nat) (sts : List (List Nat × List Nat)) : Prop where
  nm : ∀ p ∈ sts, nameOk p.1 = true ∧ p.1.length ≤ 1000
  st : ∀ p ∈ sts, stampOk p.2 n = true ∧ p.2.length ≤ 1000
  di : (sts.map (·.1)).Nodup
  few : sts.length ≤ 1000
theorem not_before {sts : List (List Nat × List Nat)} {i : Nat} {p : List Nat × List Nat} (hd : (sts.map (·.1)).Nodup) (h : sts[i]? = some p) : inV (.str (S p.1)) ((sts.take i).map fun q => V.str (S q.1)) = false := by
  unfold inV
  rw [List.any_eq_false]
  intro x hx
  obtain ⟨q, hq, rfl⟩ := List.mem_map.mp hx
  obtain ⟨j, hj, hj2⟩ := List.getElem_of_mem hq
  rw [List.length_take] at hj
  rw [List.getElem_take] at hj2
  have hi := (List.getElem?_eq_some_iff.mp h)
  obtain ⟨hi1, hi2⟩ := hi
  intro e
  have e2 : q.1 = p.1 := by
    have : S q.1 = S p.1 := by simpa [eqV] using e
    exact S_inj this
  have hp := List.pairwise_iff_getElem.mp hd j i (by rw [List.length_map]; omega) (by rw [List.length_map]; exact hi1) (by omega)
  apply hp
  rw [List.getElem_map, List.getElem_map, hi2, hj2]
  exact e2
def fitB (n : Nat) (sts : List (List Nat × List Nat)) : List Bool := sts.map fun p => stampOk p.2 n
abbrev sp_check (K : PySem.W.Frag) : Sp := spF K (fun a : Nat × List (List Nat × List Nat) => PairsOk a.1 a.2) (fun a => [.U (prD a.2), .n ((fitB a.1 a.2).map V.bl)]) fun _ => .v .non
theorem has_check_pairs (T : Txt K mg) (h : At K mg "check_pairs" s_check_pairs ["pairs", "fitting"]) (C_is_name : Has P w K mg base 1 "is_name" ["value"] (sp_is_name K)) : Has P w K mg base 3 "check_pairs" ["pairs", "fitting"] (sp_check K) := by
  refine h.hasF sc_check_pairs (fun _ => rfl) fun f cdv Ar outer s G A a vs Q E hr hp hA hv hk => ?_
  obtain ⟨n, sts⟩ := a
  replace hp : PairsOk n sts := hp
  rcases hv with _ | ⟨hx, _ | ⟨⟨fp, rfl, hfp⟩, _ | _⟩⟩
  rename_i vp
  replace hx : Is K G (.U (prD sts)) vp := hx
  have sc := sc_check_pairs
  refine ⟨_, (pss_cons (ps_set (i := 2) sc.nd rfl (Or.inl rfl) (pe_lst pa_nil))
    (pss_one (ps_for PassesOwn.never rfl (pi_enumT (K := K) (by rfl) T.b_enumerate (pa_cons (pv 0) pa_nil)) (pg_tup rfl (pgs_cons (pg_name (i := 3) sc.nd rfl (Or.inl rfl)) (pgs_cons (pg_tup rfl (pgs_cons (pg_name (i := 4) sc.nd rfl (Or.inl rfl)) (pgs_cons (pg_name (i := 5) sc.nd rfl (Or.inl rfl)) pgs_nil))) pgs_nil))) (pss_cons (ps_if (pt_not (pt_val (pe_callH C_is_name (hr.mono (by decide)) (pa_cons (pv 4) pa_nil)))) (pss_one ps_never) pss_nil)
    (pss_cons (ps_if (pt_not (pt_val (pe_ix (ix_list_k (K := K)) (pv 1) (pv 3) (fun _ _ => rfl)))) (pss_one ps_never) pss_nil)
    (pss_cons (ps_if (pt_cmpR (op_in_k (K := K)) (pv 4) (pv 2) rfl) (pss_one ps_never) pss_nil)
    (pss_one (ps_expr (pe_bm_k (K := K) PySem.F.plainAttrs_list PySem.F.slot_list_append PySem.F.type_list_append mt_append (pv 2) (pa_cons (pv 4) pa_nil)))))))))), ?_⟩
  refine s_new hA fun l A1 hl0 hg0 s1 hl1 => ?_
  have flat : ∀ i, ((sts.take i).map fun q => V.str (S q.1)).all flatV = true := fun i => by
    rw [List.all_eq_true]
    intro x hx
    obtain ⟨q, _, rfl⟩ := List.mem_map.mp hx
    rfl
  refine f_for (K := K) (ds := (prD sts).zipIdx.map fun p => Dd.U [.i (p.2 : Int), p.1]) (if_enumT (ef_var rfl hx)) s1.v (fun i σ' G' A' => ∃ o1 o2 o3, σ' = [some vp, some (.ref fp), some (.ref l), o1, o2, o3] ∧ G' l = none ∧ A' l = some (.lst ((sts.take i).map fun q => V.str (S q.1))) ∧ Step G A G' A') (fun G2 A2 s2 => ⟨none, none, none, rfl, s2.f l (by rw [hl1]; simp) hg0, s2.a l _ hl1, s1.trans s2⟩) ?_ ?_
  · rintro G2 eg i d v σ' G' A' G3 A3 hd ⟨o1, o2, o3, rfl, g1, a1, st⟩ e1 e2 s3 hv
    rw [List.getElem?_map, List.getElem?_zipIdx, List.getElem?_map] at hd
    cases hi : sts[i]? with
    | none => rw [hi] at hd; cases hd
    | some p =>
      rw [hi] at hd
      have ed : Dd.U [.i (((0 + i : Nat)) : Int), .U [.s (S p.1), .s (S p.2)]] = d := Option.some.inj hd
      subst ed
      have hm := List.mem_of_getElem? hi
      obtain ⟨nm1, nm2⟩ := hp.nm p hm
      obtain ⟨st1, st2⟩ := hp.st p hm
      have hil := (List.getElem?_eq_some_iff.mp hi).1
      have few := hp.few
      refine g_nest s3.v hv fun v1 v2 z1 z2 => ?_
      obtain rfl : v1 = V.str (S p.1) := z1
      obtain rfl : v2 = V.str (S p.2) := z2
      have a3 := s3.a l _ a1
      have g3 := s3.f l (by rw [a1]; simp) g1
      refine a_when (K := K) (b := !nameOk p.1) (et_nt (et2 (er_call p.1 (era_cons (er_v rfl) era_nil) rfl nm2))) (fun z => absurd z (by rw [nm1]; decide)) fun _ A4 e4 => ?_
      refine a_when (K := K) (b := !stampOk p.2 n) (et_nt (et2 (er_op (d1 := .n ((fitB n sts).map V.bl)) (er_var rfl ⟨fp, rfl, e4 fp _ (s3.a fp _ (st.v fp _ (st.g fp _ hfp)))⟩) (er_v rfl) (ro_ixN (i := ((0 + i : Nat) : Int)) (by omega) (by rw [Int.toNat_natCast, Nat.zero_add, List.getElem?_map]; unfold fitB; rw [List.getElem?_map, hi]; rfl))))) (fun z => absurd z (by rw [st1]; decide)) fun _ A5 e5 => ?_
      have a5 := e5 l _ (e4 l _ a3)
      refine a_when (K := K) (b := inV (.str (S p.1)) ((sts.take i).map fun q => V.str (S q.1))) (et1 (er_op (d2 := .n ((sts.take i).map fun q => V.str (S q.1))) (er_v rfl) (er_var rfl ⟨l, rfl, a5⟩) (ro_inN (neg := false) rfl (flat i)))) (fun z => absurd z (by rw [not_before hp.di hi]; decide)) fun _ A6 e6 => ?_
      have s6 := s3.trans (Step.on s3.v ((e4.trans e5).trans e6))
      refine s_app (G := G3) (e6 l _ a5) g3 (s3.v.trans ((e4.trans e5).trans e6)) (er_v rfl) (ef_flat (er_v (x := .str (S p.1)) rfl)) (by rw [List.length_map, List.length_take]; omega) fun w7 G7 A7 s7 z7 g7 a7 => ?_
      obtain rfl : w7 = V.str (S p.1) := z7
      refine ⟨G7, ⟨_, _, _, rfl, g7, ?_, ?_⟩, ?_, ?_⟩
      · rw [upd_same, map_take_next hi]
      · exact ((st.trans s6).trans s7).grow hl0 g7
      · exact e1.trans (s6.g.trans s7.g)
      · exact s7.v.mut g7
  · rintro σ' G' A' e1 e2 ⟨o1, o2, o3, rfl, g1, a1, st⟩
    exact hk .non G' A' st rfl
/-! ### Stock(..) -/
abbrev s_Stock___init__ : Stmt := inClass (topS 34) 0
theorem sc_Stock___init__ : FnScope ["self", "size", "stamps", "pairs", "name", "stamp"] ["self", "size", "stamps"] (defScope s_Stock___init__) := ⟨rfl, rfl, rfl, by decide +kernel, rfl, by decide +kernel, by decide +kernel⟩

structure StTxt (K : PySem.W.Frag) (mg : Str → Option Value) (C : Addr) : Prop where
  cl : Cls K C
  nS : NoAttr K C "size"
  nT : NoAttr K C "stamps"
  nO : NoAttr K C "_stamp_of"
  mgC : mg "Stock" = some (.ref C)
def spInit (K : PySem.W.Frag) (C : Addr) : Sp := fun vs A Q _ => ∃ (x : Addr) (n : Nat) (sts : List (List Nat × List Nat)) (w : V), vs = [.ref x, .int (n : Int), w] ∧ PairsOk n sts ∧ ∃ dx G A0, Ex G A0 ∧ Ex A0 A ∧ A0 x = none ∧ A x = some (.ins C dx []) ∧ Is K G (.L (stD sts)) w ∧ ∀ G' A', Step G A0 G' A' → Is K G' (stockC K C (n : Int) sts) (.ref x) → Q .non A'
theorem stD_ok {sts : List (List Nat × List Nat)} (h : sts.length ≤ 1000) : okD (.L (stD sts)) ∧ depD (.L (stD sts)) < 3 ∧ tupD (.L (stD sts)) = .U (prD sts) := by
  have e1 : ∀ sts : List (List Nat × List Nat), okL (stD sts) ∧ depL (stD sts) ≤ 1 ∧ tupL (stD sts) = prD sts := by
    intro sts
    induction sts with
    | nil => exact ⟨trivial, Nat.zero_le _, rfl⟩
    | cons p r ih =>
      obtain ⟨i1, i2, i3⟩ := ih
      refine ⟨⟨⟨⟨trivial, trivial, trivial⟩, by simp⟩, i1⟩, ?_, ?_⟩
      · show max (depD (.L [.s (S p.1), .s (S p.2)])) (depL (stD r)) ≤ 1
        have : depD (.L [.s (S p.1), .s (S p.2)]) = 1 := rfl
        omega
      · show tupD (.L [.s (S p.1), .s (S p.2)]) :: tupL (stD r) = Dd.U [.s (S p.1), .s (S p.2)] :: prD r
        rw [i3]
        rfl
  obtain ⟨i1, i2, i3⟩ := e1 sts
  refine ⟨⟨i1, by rw [stD_len]; exact h⟩, ?_, ?_⟩
  · show depL (stD sts) + 1 < 3
    omega
  · show Dd.U (tupL (stD sts)) = _
    rw [i3]
theorem ok_init {f C : Addr} {fd : FuncData} (F : Fun K "__init__" "Stock.__init__" s_Stock___init__ f fd) (T : Txt K mg) (TS : StTxt K mg C) (C_as_tuples : Has P w K mg base 3 "as_tuples" ["value"] (sp_tup K 3)) (C_is_stamp : Has P w K mg base 2 "is_stamp" ["value", "size"] (sp_is_stamp K)) (C_check_pairs : Has P w K mg base 3 "check_pairs" ["pairs", "fitting"] (sp_check K)) : FnOk P w K mg base CX0 4 f fd ["self", "size", "stamps"] (spInit K C) := by
  have sc := sc_Stock___init__
  refine F.ok sc (fun vs H Q E h => ?_) (fun cdv Ar outer s A vs Q E hr h => ?_)
  · obtain ⟨x, n, sts, w, rfl, _⟩ := h
    rfl
  obtain ⟨x, n, sts, wv, rfl, hp, dx, G, A0, hGA, hA, hx0, hx, hw, hk⟩ := h
  refine ⟨_, (pss_cons (ps_set (i := 3) sc.nd rfl (Or.inl rfl) (pe_callH C_as_tuples (hr.mono (by decide)) (pa_cons (pv 2) pa_nil)))
    (pss_cons (ps_expr (pe_callH C_check_pairs (hr.mono (by decide)) (pa_cons (pv 3) (pa_cons (pe_lc (own := [("name", 4), ("stamp", 5)]) (g := gTup K 2 (gCons (gName 4) (gCons (gName 5) gNil))) (by rfl) sc.nd (pi_tup_k (K := K) (pv 3)) (blkOk_by (N := ["self", "size", "stamps", "pairs", "name", "stamp"]) (sc := defScope s_Stock___init__) (own := [("name", 4), ("stamp", 5)]) (by decide +kernel)) (fun _ _ _ _ _ => (pg_tup rfl (pgs_cons (pg_name (i := 4) sc.nd rfl (Or.inl rfl)) (pgs_cons (pg_name (i := 5) sc.nd rfl (Or.inl rfl)) pgs_nil)))) (fun _ _ _ _ _ => pts_nil) (fun _ _ _ _ _ => (pe_callH C_is_stamp (hr.mono (by decide)) (pa_cons (pv 5) (pa_cons (pv 1) pa_nil))))) pa_nil))))
    (pss_cons (ps_fld (pv 0) (pv 1) rfl)
    (pss_cons (ps_fld (pv 0) (pv 3) rfl)
    (pss_one (ps_fld (pv 0) (pe_dc (own := [("name", 4), ("stamp", 5)]) (g := gTup K 2 (gCons (gName 4) (gCons (gName 5) gNil))) (by rfl) sc.nd (pi_tup_k (K := K) (pv 3)) (blkOk_by (N := ["self", "size", "stamps", "pairs", "name", "stamp"]) (sc := defScope s_Stock___init__) (own := [("name", 4), ("stamp", 5)]) (by decide +kernel)) (fun _ _ _ _ _ => (pg_tup rfl (pgs_cons (pg_name (i := 4) sc.nd rfl (Or.inl rfl)) (pgs_cons (pg_name (i := 5) sc.nd rfl (Or.inl rfl)) pgs_nil)))) (fun _ _ _ _ _ => pts_nil) (fun _ _ _ _ _ => (pv 4)) (fun _ _ _ _ _ => (pv 5))) rfl)))))), ?_⟩
  obtain ⟨k1, k2, k3⟩ := stD_ok hp.few
  have s0 : Step G A0 G A := .on hGA hA
  have gx : G x = none := ex_out hGA hx0
  refine s_set (K := K) (d := .U (prD sts)) (Ef.to (ef_call (Dd.L (stD sts)) (efa_cons (ef_var rfl hw) efa_nil) rfl ⟨k1, k2⟩) k3) s0.v fun vp G1 A1 s1 hvp => ?_
  have hfit : Ef K (tLc (iTup K (tVar 3)) (gTup K 2 (gCons (gName 4) (gCons (gName 5) gNil))) tYes (tCall (sp_is_stamp K) [] E0 (tCons (tVar 5) (tCons (tVar 1) tNil))) [4, 5]) [some (.ref x), some (.int (n : Int)), some wv, some vp, none, none] G1 (.n ((fitB n sts).map V.bl)) := by
    refine Ef.as (ef_lc (K := K) (its := sts) (inj := fun p => Dd.U [.s (S p.1), .s (S p.2)]) (fun _ => true) (fun p => Dd.b (stampOk p.2 n)) (if_tup (ef_var (i := 3) rfl hvp)) (by have := hp.few; omega) (fun i p v G' A' eg ea hi hv => ?_)) ?_
    · obtain ⟨T1, us, rfl, hT, y1, r1, rfl, hy1, y2, r2, rfl, hy2, hr2⟩ := hv
      have er : r2 = [] := hr2
      subst er
      obtain rfl : y1 = V.str (S p.1) := hy1
      obtain rfl : y2 = V.str (S p.2) := hy2
      exact ⟨_, fun Q q => ⟨T1, _, rfl, ex_t ea hT, rfl, _, _, rfl, _, _, rfl, rfl, q⟩, rfl, fun H2 e Q q => q H2 (Ex.refl _), fun _ => ef_flat (er_call (p.2, n) (era_cons (er_v rfl) (era_cons (er_v rfl) era_nil)) rfl (hp.st p (List.mem_of_getElem? hi)).2)⟩
    · intro H v z
      rw [filt_true] at z
      refine Is.N2n ?_
      unfold fitB
      rw [List.map_map, List.map_map]
      exact z
  refine s_drop (K := K) (ef_call (n, sts) (efa_cons (ef_var rfl hvp) (efa_cons hfit efa_nil)) rfl hp) s1.v fun v2 G2 A2 s2 _ => ?_
  have x2 : A2 x = some (.ins C dx []) := s2.a x _ (s1.a x _ hx)
  have g2 : G2 x = none := s2.f x (by rw [s1.a x _ hx]; simp) (s1.f x (by rw [hx]; simp) gx)
  have S2 : Step G A0 G2 A2 := (s0.trans s1).trans s2
  replace hvp := hvp.mono s2.g
  -- self.size = size
  refine ⟨_, rfl, _, rfl, x, C, dx, [], rfl, x2, TS.cl, TS.nS, by decide, ?_⟩
  have S3 := S2.grow (o := .ins C dx (putF "size" (.int (n : Int)) [])) hx0 g2
  -- self.stamps = pairs
  refine ⟨_, rfl, _, rfl, x, C, dx, _, rfl, upd_same, TS.cl, TS.nT, by show 1 < 1000; decide, ?_⟩
  obtain ⟨ps, vs2, rfl, hps, hE⟩ := hvp
  have hvp : Is K G2 (.U (prD sts)) (.ref ps) := ⟨ps, vs2, rfl, hps, hE⟩
  rw [upd_upd]
  have S4 := S2.grow (o := .ins C dx (putF "stamps" (.ref ps) (putF "size" (.int (n : Int)) []))) hx0 g2
  -- self._stamp_of = {..}
  show sFld K (tVar 0) (tDc (iTup K (tVar 3)) (gTup K 2 (gCons (gName 4) (gCons (gName 5) gNil))) tYes (tVar 4) (tVar 5) [4, 5]) "_stamp_of" { nx := fun _ H' => Q .non H', rt := Q } [some (.ref x), some (.int (n : Int)), some wv, some (.ref ps), none, none] _
  unfold sFld
  show tDc (iTup K (tVar 3)) (gTup K 2 (gCons (gName 4) (gCons (gName 5) gNil))) tYes (tVar 4) (tVar 5) [4, 5] [some (.ref x), some (.int (n : Int)), some wv, some (.ref ps), none, none] _ _
  refine ef_dcC (K := K) (σ := [some (.ref x), some (.int (n : Int)), some wv, some (.ref ps), none, none]) (its := sts) (inj := fun p => Dd.U [.s (S p.1), .s (S p.2)]) (G := G2) (fun p : List Nat × List Nat => (Sum.inr (S p.1) : Key)) (fun p => V.str (S p.2)) (List.pairwise_map.mpr ((List.pairwise_map.mp hp.di).imp fun h e => h (S_inj (Sum.inr.inj e)))) (if_tup (ef_var (i := 3) rfl hvp)) (by have := hp.few; omega) (fun i p v G' A' e1 e2 hi hv => ?_) G2 _ (Ex.refl _) S4.v _ fun vd G5 A5 s5 hvd => ?_
  · obtain ⟨T1, us, rfl, hT, y1, r1, rfl, hy1, y2, r2, rfl, hy2, hr2⟩ := hv
    have er : r2 = [] := hr2
    subst er
    obtain rfl : y1 = V.str (S p.1) := hy1
    obtain rfl : y2 = V.str (S p.2) := hy2
    exact ⟨_, fun Q q => ⟨T1, _, rfl, ex_t e2 hT, rfl, _, _, rfl, _, _, rfl, rfl, q⟩, rfl, er_v rfl, er_v rfl⟩
  obtain ⟨dd, rfl, hdd⟩ := hvd
  have x5 : A5 x = some (.ins C dx (putF "stamps" (.ref ps) (putF "size" (.int (n : Int)) []))) := s5.a x _ upd_same
  have g5 : G5 x = none := s5.f x (by rw [upd_same]; simp) g2
  refine ⟨_, rfl, x, C, dx, _, rfl, x5, TS.cl, TS.nO, ?_, ?_⟩
  · have : (putF "stamps" (V.ref ps) (putF "size" (.int (n : Int)) [])).length = 2 := by
      show (if ("size" : Str) = "stamps" then _ else _ : List (Str × V)).length = 2
      rw [if_neg ne_ss]
      rfl
    rw [this]
    decide
  have S5 := (S4.trans s5).grow (o := .ins C dx (stFlds (n : Int) ps dd)) hx0 g5
  refine hk _ _ (S5.seal hx0 g5 upd_same) ⟨x, dx, ps, dd, rfl, upd_same, ?_, ?_⟩
  · exact (hvp.mono s5.g).mono (Ex.new g5)
  · exact Ex.new g5 dd _ hdd
end
end Mi

set_option maxHeartbeats 4000000
namespace Mi
open PySem PySem.Spec PyProof.Rows L2 Evl
local macro_rules | `(tactic| walk_at "side") => `(tactic| (first | assumption | omega | exact rfl | decide | (simp only [List.length_cons, List.length_nil, List.length_map, List.length_append, List.length_replicate] <;> omega)))
local macro_rules | `(tactic| walk_at "ro") => `(tactic| (first
  | with_reducible exact ro_I0
  | with_reducible exact ro_1018
  | with_reducible exact ro_neC
  | with_reducible exact ro_eqC
  | with_reducible exact ro_neI
  | with_reducible exact ro_eqI
  | with_reducible exact ro_neB
  | with_reducible exact ro_eqB
  | ((with_reducible apply ro_mod); (walk_at "side"))
  | ((with_reducible apply ro_div) <;> (walk_at "side"))
  | ((with_reducible apply ro_divW) <;> (walk_at "side"))
  | with_reducible exact ro_1012
  | with_reducible exact ro_1015
  | ((with_reducible apply ro_mulL) <;> (walk_at "side"))
  | ((with_reducible apply ro_mulR) <;> (walk_at "side"))
  | ((with_reducible apply ro_addC); (walk_at "side"))
  | ((with_reducible apply ro_ixC) <;> (walk_at "side"))
  | ((with_reducible apply ro_ixI) <;> (walk_at "side"))
  | ((with_reducible apply ro_ixIN) <;> (walk_at "side"))
  | ((with_reducible apply ro_ixT2) <;> (walk_at "side"))
  | ((with_reducible apply ro_ixG) <;> (walk_at "side"))
  | ((with_reducible apply ro_eq); exact rfl)
  | ((with_reducible apply ro_ne); exact rfl)
  | with_reducible exact ro_isN
  | with_reducible exact ro_notN
  | with_reducible exact ro_eqL
  | with_reducible exact ro_neL
  | with_reducible exact ro_eqU
  | ((with_reducible apply ro_cat); (walk_at "side"))
  | with_reducible exact ro_inLi
  | with_reducible exact ro_inNi
  | with_reducible exact ro_inUi
  | ((with_reducible apply ro_inL) <;> (walk_at "side"))
  | ((with_reducible apply ro_inN) <;> (walk_at "side"))
  | ((with_reducible apply ro_inU) <;> (walk_at "side"))))
local macro_rules | `(tactic| walk_at "rc") => `(tactic| (first
  | with_reducible exact rc_int
  | with_reducible exact rc_intB
  | with_reducible exact rc_max2
  | ((with_reducible apply rc_lenC); (walk_at "side"))
  | with_reducible exact rc_lenI
  | with_reducible exact rc_lenT
  | with_reducible exact rc_lenIN
  | with_reducible exact rc_lenTN
  | with_reducible exact rc_lenL
  | with_reducible exact rc_lenN
  | with_reducible exact rc_lenU
  | with_reducible exact rc_listL
  | with_reducible exact rc_listU
  | with_reducible exact rc_tupL
  | with_reducible exact rc_tupN
  | ((with_reducible apply rc_isi_int); decide +kernel)
  | ((with_reducible apply rc_isi_str); decide +kernel)
  | ((with_reducible apply rc_isi_bl); decide +kernel)
  | ((with_reducible apply rc_isi_non); decide +kernel)
  | ((with_reducible apply rc_isi_u); decide +kernel)
  | ((with_reducible apply rc_isi_l); decide +kernel)))
local macro_rules | `(tactic| walk_at "er") => `(tactic| (first
  | ((with_reducible apply er_var); (exact rfl); assumption)
  | ((with_reducible apply er_v); exact rfl)
  | with_reducible exact er_c
  | ((with_reducible apply er_pick); (walk_at "er"); (walk_at "er"); (walk_at "er"))
  | ((with_reducible apply er_op); (walk_at "er"); (walk_at "er"); (walk_at "ro"))
  | ((with_reducible apply er_cb); (walk_at "era"); (walk_at "rc"))
  | ((with_reducible apply er_lst'); (walk_at "era"); (exact rfl); (walk_at "side"))
  | ((with_reducible apply er_tup'); (walk_at "era"); (exact rfl); (walk_at "side"))
  | ((with_reducible apply er_notV); (walk_at "er"))
  | ((with_reducible apply er_andV); (walk_at "er"); (intro _; (walk_at "er")))
  | ((with_reducible apply er_orV); (walk_at "er"); (intro _; (walk_at "er")))
  | ((with_reducible apply er_ite); (walk_at "et"); (intro _; (walk_at "er")); (intro _; (walk_at "er")))))
local macro_rules | `(tactic| walk_at "era") => `(tactic| (first
  | with_reducible exact era_nil
  | ((with_reducible apply era_cons); (walk_at "er"); (walk_at "era"))))
local macro_rules | `(tactic| walk_at "et") => `(tactic| (first
  | ((with_reducible apply et_an); (walk_at "et"); (intro _; (walk_at "et")))
  | ((with_reducible apply et_orr); (walk_at "et"); (intro _; (walk_at "et")))
  | ((with_reducible apply et_nt); (walk_at "et"))
  | ((with_reducible apply et1); (walk_at "er"))
  | ((with_reducible apply et2); (walk_at "er"))))

section
variable {P : Program} {w : World} {K : PySem.W.Frag} {mg : Str → Option Value} {base : Heap}
/-! ### what the program asks of cells -/
abbrev s_differs_at : Stmt := topS 15
theorem sc_differs_at : FnScope ["stamp", "seen", "cells", "cell"] ["stamp", "seen", "cells"] (defScope s_differs_at) := ⟨rfl, rfl, rfl, by decide +kernel, rfl, by decide +kernel, by decide +kernel⟩

def diffC (stamp seen : List Nat) (c : Nat) : Bool := !decide (stamp.getD c 0 = 45) && !decide (stamp.getD c 0 = seen.getD c 0)
abbrev sp_differs (K : PySem.W.Frag) : Sp := spR K (fun a : (List Nat × List Nat) × Bool × List Nat => (a.1.1.length = a.1.2.length ∧ a.1.1.length ≤ 1000) ∧ a.2.2.length ≤ 1000 ∧ ∀ c ∈ a.2.2, c < a.1.1.length) (fun a => [.s (S a.1.1), .s (S a.1.2), csD a.2.1 a.2.2]) fun a => .b (a.2.2.any (diffC a.1.1 a.1.2))
theorem has_differs_at (T : Txt K mg) (h : At K mg "differs_at" s_differs_at ["stamp", "seen", "cells"]) : Has P w K mg base 1 "differs_at" ["stamp", "seen", "cells"] (sp_differs K) := by
  refine h.hasR sc_differs_at (fun _ => rfl) fun f cdv A outer s H a vs Q E hr hp hv hk => ?_
  obtain ⟨⟨stamp, seen⟩, b, cs⟩ := a
  obtain ⟨⟨hl, hl2⟩, hz, hc⟩ := hp
  replace hl : stamp.length = seen.length := hl
  replace hl2 : stamp.length ≤ 1000 := hl2
  replace hz : cs.length ≤ 1000 := hz
  replace hc : ∀ c ∈ cs, c < stamp.length := hc
  rcases hv with _ | ⟨rfl, _ | ⟨rfl, _ | ⟨hx, _ | _⟩⟩⟩
  rename_i x
  replace hx : Is K H (csD b cs) x := hx
  have sc := sc_differs_at
  obtain ⟨_, gc_DASH⟩ := T.g_DASH
  refine ⟨_, (pss_one (ps_ret (pe_callB (cr_any_k (K := K)) (by rfl) T.b_any (by decide +kernel) (pa_cons (pe_lc (own := [("cell", 3)]) (g := gName 3) (by rfl) sc.nd (pi_seqV (K := K) (pv 2)) (blkOk_by (N := ["stamp", "seen", "cells", "cell"]) (sc := defScope s_differs_at) (own := [("cell", 3)]) (by decide +kernel)) (fun _ _ _ _ _ => (pg_name (i := 3) sc.nd rfl (Or.inl rfl))) (fun _ _ _ _ _ => pts_nil) (fun _ _ _ _ _ => (pe_and (pe_cmpR op_ne (pe_ix ix_str (pv 0) (pv 3) (fun _ _ => rfl)) (pe_glob (v := .str (S [45])) rfl gc_DASH ⟨_, rfl⟩) (nomark _)) (pe_one (pe_cmpR op_ne (pe_ix ix_str (pv 0) (pv 3) (fun _ _ => rfl)) (pe_ix ix_str (pv 1) (pv 3) (fun _ _ => rfl)) (nomark _)))))) pa_nil)))), ?_⟩
  refine a_rete (K := K) (er_cb (era_cons (er_lcB (b := b) (cs := cs) (i := 2) (j := 3) (diffC stamp seen) rfl hx hz (fun _ => rfl) fun c hm H1 e1 => ?_) era_nil) rc_anyBN) ?_ (Ex.refl H) hk
  · have h1 := hc c hm
    exact Er.to (er_andV (a := !decide ([stamp.getD c 0] = [45])) (b := !decide ([stamp.getD c 0] = [seen.getD c 0])) (er_op (er_sign (l := stamp) (n := c) (er_v rfl) (er_v rfl) h1 (by omega)) er_c ro_neC) fun _ => er_op (er_sign (l := stamp) (n := c) (er_v rfl) (er_v rfl) h1 (by omega)) (er_sign (l := seen) (n := c) (er_v rfl) (er_v rfl) (by omega) (by omega)) ro_neC) (by unfold diffC; simp)
  · rw [List.any_map]
    rfl
abbrev s_covers_any : Stmt := topS 16
theorem sc_covers_any : FnScope ["stamp", "cells", "cell"] ["stamp", "cells"] (defScope s_covers_any) := ⟨rfl, rfl, rfl, by decide +kernel, rfl, by decide +kernel, by decide +kernel⟩

def covC (stamp : List Nat) (c : Nat) : Bool := !decide (stamp.getD c 0 = 45)
abbrev sp_covers (K : PySem.W.Frag) : Sp := spR K (fun a : List Nat × Bool × List Nat => a.1.length ≤ 1000 ∧ a.2.2.length ≤ 1000 ∧ ∀ c ∈ a.2.2, c < a.1.length) (fun a => [.s (S a.1), csD a.2.1 a.2.2]) fun a => .b (a.2.2.any (covC a.1))
theorem has_covers_any (T : Txt K mg) (h : At K mg "covers_any" s_covers_any ["stamp", "cells"]) : Has P w K mg base 1 "covers_any" ["stamp", "cells"] (sp_covers K) := by
  refine h.hasR sc_covers_any (fun _ => rfl) fun f cdv A outer s H a vs Q E hr hp hv hk => ?_
  obtain ⟨stamp, b, cs⟩ := a
  obtain ⟨hl2, hz, hc⟩ := hp
  replace hl2 : stamp.length ≤ 1000 := hl2
  replace hz : cs.length ≤ 1000 := hz
  replace hc : ∀ c ∈ cs, c < stamp.length := hc
  rcases hv with _ | ⟨rfl, _ | ⟨hx, _ | _⟩⟩
  rename_i x
  replace hx : Is K H (csD b cs) x := hx
  have sc := sc_covers_any
  obtain ⟨_, gc_DASH⟩ := T.g_DASH
  refine ⟨_, (pss_one (ps_ret (pe_callB (cr_any_k (K := K)) (by rfl) T.b_any (by decide +kernel) (pa_cons (pe_lc (own := [("cell", 2)]) (g := gName 2) (by rfl) sc.nd (pi_seqV (K := K) (pv 1)) (blkOk_by (N := ["stamp", "cells", "cell"]) (sc := defScope s_covers_any) (own := [("cell", 2)]) (by decide +kernel)) (fun _ _ _ _ _ => (pg_name (i := 2) sc.nd rfl (Or.inl rfl))) (fun _ _ _ _ _ => pts_nil) (fun _ _ _ _ _ => (pe_cmpR op_ne (pe_ix ix_str (pv 0) (pv 2) (fun _ _ => rfl)) (pe_glob (v := .str (S [45])) rfl gc_DASH ⟨_, rfl⟩) (nomark _)))) pa_nil)))), ?_⟩
  refine a_rete (K := K) (er_cb (era_cons (er_lcB (b := b) (cs := cs) (i := 1) (j := 2) (covC stamp) rfl hx hz (fun _ => rfl) fun c hm H1 e1 => ?_) era_nil) rc_anyBN) ?_ (Ex.refl H) hk
  · have h1 := hc c hm
    exact Er.to (er_op (er_sign (l := stamp) (n := c) (er_v rfl) (er_v rfl) h1 (by omega)) er_c ro_neC) (by unfold covC; simp)
  · rw [List.any_map]
    rfl
abbrev s_marks_differ : Stmt := topS 37
theorem sc_marks_differ : FnScope ["one", "two", "cell"] ["one", "two", "cell"] (defScope s_marks_differ) := ⟨rfl, rfl, rfl, by decide +kernel, rfl, by decide +kernel, by decide +kernel⟩

def mdC (one two : List Nat) (c : Nat) : Bool := !decide (one.getD c 0 = 45) && (!decide (two.getD c 0 = 45) && !decide (one.getD c 0 = two.getD c 0))
abbrev sp_marks (K : PySem.W.Frag) : Sp := spR K (fun a : List Nat × List Nat × Nat => (a.1.length = a.2.1.length ∧ a.1.length ≤ 1000) ∧ a.2.2 < a.1.length) (fun a => [.s (S a.1), .s (S a.2.1), .i (a.2.2 : Int)]) fun a => .b (mdC a.1 a.2.1 a.2.2)
theorem has_marks_differ (T : Txt K mg) (h : At K mg "marks_differ" s_marks_differ ["one", "two", "cell"]) : Has P w K mg base 1 "marks_differ" ["one", "two", "cell"] (sp_marks K) := by
  refine h.hasR sc_marks_differ (fun _ => rfl) fun f cdv A outer s H a vs Q E hr hp hv hk => ?_
  obtain ⟨one, two, c⟩ := a
  obtain ⟨⟨hl, hl2⟩, hc⟩ := hp
  replace hl : one.length = two.length := hl
  replace hl2 : one.length ≤ 1000 := hl2
  replace hc : c < one.length := hc
  rcases hv with _ | ⟨rfl, _ | ⟨rfl, _ | ⟨rfl, _ | _⟩⟩⟩
  have sc := sc_marks_differ
  obtain ⟨_, gc_DASH⟩ := T.g_DASH
  refine ⟨_, (pss_one (ps_ret (pe_and (pe_cmpR op_ne (pe_ix ix_str (pv 0) (pv 2) (fun _ _ => rfl)) (pe_glob (v := .str (S [45])) rfl gc_DASH ⟨_, rfl⟩) (nomark _)) (pe_and (pe_cmpR op_ne (pe_ix ix_str (pv 1) (pv 2) (fun _ _ => rfl)) (pe_glob (v := .str (S [45])) rfl gc_DASH ⟨_, rfl⟩) (nomark _)) (pe_one (pe_cmpR op_ne (pe_ix ix_str (pv 0) (pv 2) (fun _ _ => rfl)) (pe_ix ix_str (pv 1) (pv 2) (fun _ _ => rfl)) (nomark _))))))), ?_⟩
  refine a_rete (K := K) (er_andV (a := !decide ([one.getD c 0] = [45])) (b := !decide ([two.getD c 0] = [45]) && !decide ([one.getD c 0] = [two.getD c 0])) (er_op (er_sign (l := one) (n := c) (er_v rfl) (er_v rfl) hc (by omega)) er_c ro_neC) fun _ => er_andV (er_op (er_sign (l := two) (n := c) (er_v rfl) (er_v rfl) (by omega) (by omega)) er_c ro_neC) fun _ => er_op (er_sign (l := one) (n := c) (er_v rfl) (er_v rfl) hc (by omega)) (er_sign (l := two) (n := c) (er_v rfl) (er_v rfl) (by omega) (by omega)) ro_neC) ?_ (Ex.refl H) hk
  unfold mdC
  simp
/-! ### the first stamp to peel -/
abbrev s_first_to_peel : Stmt := topS 12
theorem sc_first_to_peel : FnScope ["stock", "left", "name", "stamp"] ["stock", "left"] (defScope s_first_to_peel) := ⟨rfl, rfl, rfl, by decide +kernel, rfl, by decide +kernel, by decide +kernel⟩

def peelC (left : List Nat) (p : List Nat × List Nat) : Bool := agreeM left p.2 && !decide (freeM left p.2 = left)
def nameV : Option (List Nat × List Nat) → V
  | none => .non
  | some p => .str (S p.1)
theorem prD_of {st : List (List Nat × List Nat)} {i : Nat} {d : Dd} (h : (prD st)[i]? = some d) : ∃ p, st[i]? = some p ∧ d = Dd.U [.s (S p.1), .s (S p.2)] := by
  rw [List.getElem?_map] at h
  cases q : st[i]? with
  | none => rw [q] at h; cases h
  | some p => rw [q] at h; exact ⟨p, rfl, (Option.some.inj h).symm⟩
theorem find_next {α : Type} {l : List α} {p : α → Bool} {i : Nat} {x : α} (h : l[i]? = some x) (hn : (l.take i).find? p = none) : (l.take (i + 1)).find? p = if p x = true then some x else none := by
  rw [List.take_add_one, h, List.find?_append, hn]
  simp [List.find?_cons]
  split <;> simp_all
theorem find_take {α : Type} {l : List α} {p : α → Bool} {i : Nat} {x : α} (h : (l.take i).find? p = some x) : l.find? p = some x := by
  have e : l = l.take i ++ l.drop i := (List.take_append_drop _ _).symm
  rw [e, List.find?_append, h]
  rfl
abbrev sp_first (K : PySem.W.Frag) (C : Addr) : Sp := spF K (fun a : Nat × List (List Nat × List Nat) × List Nat => a.2.1.length ≤ 1000 ∧ a.2.2.length ≤ 1000) (fun a => [stockD K C (a.1 : Int) a.2.1, .s (S a.2.2)]) fun a => .v (nameV (a.2.1.find? (peelC a.2.2)))
theorem has_first_to_peel {C fi : Addr} (T : Txt K mg) (h : At K mg "first_to_peel" s_first_to_peel ["stock", "left"]) (F_iter : IterFn P w K mg base 1 fi C "stamps") (C_agree : Has P w K mg base 1 "agree" ["one", "two"] (sp_agree K)) (C_peeled : Has P w K mg base 1 "peeled" ["left", "stamp"] (sp_peeled K)) : Has P w K mg base 2 "first_to_peel" ["stock", "left"] (sp_first K C) := by
  refine h.hasF sc_first_to_peel (fun _ => rfl) fun f cdv Ar outer s G A a vs Q E hr hp hA hv hk => ?_
  obtain ⟨n, sts, left⟩ := a
  obtain ⟨few, hl⟩ := hp
  replace few : sts.length ≤ 1000 := few
  replace hl : left.length ≤ 1000 := hl
  rcases hv with _ | ⟨hx, _ | ⟨hlv, _ | _⟩⟩
  rename_i vst vl
  obtain rfl : vl = V.str (S left) := hlv
  replace hx : Is K G (stockD K C (n : Int) sts) vst := hx
  have sc := sc_first_to_peel
  refine ⟨_, (pss_cons (ps_for PassesOwn.never rfl (pi_own (K := K) F_iter (hr.mono (by decide)) (pv 0)) (pg_tup rfl (pgs_cons (pg_name (i := 2) sc.nd rfl (Or.inl rfl)) (pgs_cons (pg_name (i := 3) sc.nd rfl (Or.inl rfl)) pgs_nil))) (pss_one (ps_if (PW.pt (pw_and (pt_val (pe_callH C_agree (hr.mono (by decide)) (pa_cons (pv 1) (pa_cons (pv 3) pa_nil)))) (pw_and1 (pt_cmpR op_ne (pe_callH C_peeled (hr.mono (by decide)) (pa_cons (pv 1) (pa_cons (pv 3) pa_nil))) (pv 1) (nomark _))))) (pss_one (ps_ret (pv 2))) pss_nil)))
    (pss_one (ps_ret pe_non))), ?_⟩
  refine b_for (K := K) (G := G) (ds := prD sts) (if_stock rfl hx) hA (fun i σ' G' A' => ∃ y z, σ' = [some vst, some (.str (S left)), y, z] ∧ Ex A A' ∧ (sts.take i).find? (peelC left) = none) (fun G1 A1 s1 => ⟨none, none, rfl, s1.a, rfl⟩) ?_ ?_
  · rintro G1 eg i d v σ' G' A' G2 A2 hd ⟨y, z, rfl, ea, hn⟩ e1 e2 s2 hv
    obtain ⟨p, hp1, rfl⟩ := prD_of hd
    have hnx := find_next hp1 hn
    refine g_two s2.v hv fun v1 v2 h1 h2 => ?_
    obtain rfl : v1 = V.str (S p.1) := h1
    obtain rfl : v2 = V.str (S p.2) := h2
    refine a_when1 (K := K) (b := peelC left p) (et_an (et2 (er_call (left, p.2) (era_cons (er_v rfl) (era_cons (er_v rfl) era_nil)) rfl trivial)) fun _ => et1 (er_op (er_call (left, p.2) (era_cons (er_v rfl) (era_cons (er_v rfl) era_nil)) rfl hl) (er_v rfl) ro_neC)) (fun hb A3 e3 => ?_) fun hb A3 e3 => ?_
    · rw [if_pos hb] at hnx
      have hf := find_take hnx
      refine ⟨.str (S p.1), rfl, hk _ G A3 (Step.on hA ((ea.trans s2.a).trans e3)) ?_⟩
      show V.str (S p.1) = nameV (sts.find? (peelC left))
      rw [hf]
      rfl
    · rw [if_neg (by rw [hb]; exact Bool.false_ne_true)] at hnx
      exact ⟨G2, ⟨_, _, rfl, (ea.trans s2.a).trans e3, hnx⟩, e1.trans s2.g, s2.v.trans e3⟩
  · rintro σ' G' A' eg ev ⟨y, z, rfl, ea, hn⟩
    rw [List.length_map, List.take_length] at hn
    refine hk .non G A' (Step.on hA ea) ?_
    show V.non = nameV (sts.find? (peelC left))
    rw [hn]
    rfl
end
end Mi

set_option maxHeartbeats 4000000
namespace Mi
open PySem PySem.Spec PyProof.Rows L2 Evl
local macro_rules | `(tactic| walk_at "side") => `(tactic| (first | assumption | omega | exact rfl | decide | (simp only [List.length_cons, List.length_nil, List.length_map, List.length_append, List.length_replicate] <;> omega)))
local macro_rules | `(tactic| walk_at "ro") => `(tactic| (first
  | with_reducible exact ro_I0
  | with_reducible exact ro_1018
  | with_reducible exact ro_neC
  | with_reducible exact ro_eqC
  | with_reducible exact ro_neI
  | with_reducible exact ro_eqI
  | with_reducible exact ro_neB
  | with_reducible exact ro_eqB
  | ((with_reducible apply ro_mod); (walk_at "side"))
  | ((with_reducible apply ro_div) <;> (walk_at "side"))
  | ((with_reducible apply ro_divW) <;> (walk_at "side"))
  | with_reducible exact ro_1012
  | with_reducible exact ro_1015
  | ((with_reducible apply ro_mulL) <;> (walk_at "side"))
  | ((with_reducible apply ro_mulR) <;> (walk_at "side"))
  | ((with_reducible apply ro_addC); (walk_at "side"))
  | ((with_reducible apply ro_ixC) <;> (walk_at "side"))
  | ((with_reducible apply ro_ixI) <;> (walk_at "side"))
  | ((with_reducible apply ro_ixIN) <;> (walk_at "side"))
  | ((with_reducible apply ro_ixT2) <;> (walk_at "side"))
  | ((with_reducible apply ro_ixG) <;> (walk_at "side"))
  | ((with_reducible apply ro_eq); exact rfl)
  | ((with_reducible apply ro_ne); exact rfl)
  | with_reducible exact ro_isN
  | with_reducible exact ro_notN
  | with_reducible exact ro_eqL
  | with_reducible exact ro_neL
  | with_reducible exact ro_eqU
  | ((with_reducible apply ro_cat); (walk_at "side"))
  | with_reducible exact ro_inLi
  | with_reducible exact ro_inNi
  | with_reducible exact ro_inUi
  | ((with_reducible apply ro_inL) <;> (walk_at "side"))
  | ((with_reducible apply ro_inN) <;> (walk_at "side"))
  | ((with_reducible apply ro_inU) <;> (walk_at "side"))))
local macro_rules | `(tactic| walk_at "rc") => `(tactic| (first
  | with_reducible exact rc_int
  | with_reducible exact rc_intB
  | with_reducible exact rc_max2
  | ((with_reducible apply rc_lenC); (walk_at "side"))
  | with_reducible exact rc_lenI
  | with_reducible exact rc_lenT
  | with_reducible exact rc_lenIN
  | with_reducible exact rc_lenTN
  | with_reducible exact rc_lenL
  | with_reducible exact rc_lenN
  | with_reducible exact rc_lenU
  | with_reducible exact rc_listL
  | with_reducible exact rc_listU
  | with_reducible exact rc_tupL
  | with_reducible exact rc_tupN
  | ((with_reducible apply rc_isi_int); decide +kernel)
  | ((with_reducible apply rc_isi_str); decide +kernel)
  | ((with_reducible apply rc_isi_bl); decide +kernel)
  | ((with_reducible apply rc_isi_non); decide +kernel)
  | ((with_reducible apply rc_isi_u); decide +kernel)
  | ((with_reducible apply rc_isi_l); decide +kernel)))
local macro_rules | `(tactic| walk_at "er") => `(tactic| (first
  | ((with_reducible apply er_var); (exact rfl); assumption)
  | ((with_reducible apply er_v); exact rfl)
  | with_reducible exact er_c
  | ((with_reducible apply er_pick); (walk_at "er"); (walk_at "er"); (walk_at "er"))
  | ((with_reducible apply er_op); (walk_at "er"); (walk_at "er"); (walk_at "ro"))
  | ((with_reducible apply er_cb); (walk_at "era"); (walk_at "rc"))
  | ((with_reducible apply er_lst'); (walk_at "era"); (exact rfl); (walk_at "side"))
  | ((with_reducible apply er_tup'); (walk_at "era"); (exact rfl); (walk_at "side"))
  | ((with_reducible apply er_notV); (walk_at "er"))
  | ((with_reducible apply er_andV); (walk_at "er"); (intro _; (walk_at "er")))
  | ((with_reducible apply er_orV); (walk_at "er"); (intro _; (walk_at "er")))
  | ((with_reducible apply er_ite); (walk_at "et"); (intro _; (walk_at "er")); (intro _; (walk_at "er")))))
local macro_rules | `(tactic| walk_at "era") => `(tactic| (first
  | with_reducible exact era_nil
  | ((with_reducible apply era_cons); (walk_at "er"); (walk_at "era"))))
local macro_rules | `(tactic| walk_at "et") => `(tactic| (first
  | ((with_reducible apply et_an); (walk_at "et"); (intro _; (walk_at "et")))
  | ((with_reducible apply et_orr); (walk_at "et"); (intro _; (walk_at "et")))
  | ((with_reducible apply et_nt); (walk_at "et"))
  | ((with_reducible apply et1); (walk_at "er"))
  | ((with_reducible apply et2); (walk_at "er"))))

section
variable {P : Program} {w : World} {K : PySem.W.Frag} {mg : Str → Option Value} {base : Heap}
theorem rf_allB {bs : List Bool} : Rcf K (rAll K) [.N (bs.map fun b => Dd.b b)] (.b (bs.all id)) := fun vs G A e h Q q => by
  rcases h with _ | ⟨hx, _ | _⟩
  obtain ⟨p, ep, hp⟩ := Is.N2n (xs := bs.map V.bl) (by rw [List.map_map]; exact hx)
  subst ep
  exact ⟨p, bs, rfl, sq_of (e p _ hp), q _ G A (Step.refl e) rfl⟩
/-! ### fast sets -/
abbrev s_is_fast : Stmt := topS 17
theorem sc_is_fast : FnScope ["stock", "seen", "chosen", "cell", "name", "stamp"] ["stock", "seen", "chosen"] (defScope s_is_fast) := ⟨rfl, rfl, rfl, by decide +kernel, rfl, by decide +kernel, by decide +kernel⟩

def bareC (seen : List Nat) (c : Nat) : Bool := decide (seen.getD c 0 = 45)
def fastM (sts : List (List Nat × List Nat)) (seen : List Nat) (cs : List Nat) : Bool := !(cs.any (bareC seen)) && ((sts.filter fun p => cs.any (covC p.2)).map fun p => cs.any (diffC p.2 seen)).all id
structure CellsOk (size : Nat) (sts : List (List Nat × List Nat)) (seen : List Nat) (cs : List Nat) : Prop where
  few : sts.length ≤ 1000
  st : ∀ p ∈ sts, p.2.length = size
  sl : seen.length = size
  sz : size ≤ 1000
  cz : cs.length ≤ 1000
  cb : ∀ c ∈ cs, c < size
abbrev sp_is_fast (K : PySem.W.Frag) (C : Addr) : Sp := spF K (fun a : Nat × List (List Nat × List Nat) × List Nat × Bool × List Nat => CellsOk a.1 a.2.1 a.2.2.1 a.2.2.2.2) (fun a => [stockD K C (a.1 : Int) a.2.1, .s (S a.2.2.1), csD a.2.2.2.1 a.2.2.2.2]) fun a => .b (fastM a.2.1 a.2.2.1 a.2.2.2.2)
theorem has_is_fast {C fi : Addr} (T : Txt K mg) (h : At K mg "is_fast" s_is_fast ["stock", "seen", "chosen"]) (F_iter : IterFn P w K mg base 1 fi C "stamps") (C_covers_any : Has P w K mg base 1 "covers_any" ["stamp", "cells"] (sp_covers K)) (C_differs_at : Has P w K mg base 1 "differs_at" ["stamp", "seen", "cells"] (sp_differs K)) : Has P w K mg base 2 "is_fast" ["stock", "seen", "chosen"] (sp_is_fast K C) := by
  refine h.hasF sc_is_fast (fun _ => rfl) fun f cdv Ar outer s G A a vs Q E hr hp hA hv hk => ?_
  obtain ⟨n, sts, seen, b, cs⟩ := a
  replace hp : CellsOk n sts seen cs := hp
  rcases hv with _ | ⟨hx, _ | ⟨hs, _ | ⟨hc, _ | _⟩⟩⟩
  rename_i vst vs vc
  obtain rfl : vs = V.str (S seen) := hs
  replace hx : Is K G (stockD K C (n : Int) sts) vst := hx
  replace hc : Is K G (csD b cs) vc := hc
  have sc := sc_is_fast
  obtain ⟨_, gc_DASH⟩ := T.g_DASH
  have sl := hp.sl
  have sz := hp.sz
  have few := hp.few
  refine ⟨_, (pss_cons (ps_if (pt_val (pe_callB (cr_any_k (K := K)) (by rfl) T.b_any (by decide +kernel) (pa_cons (pe_lc (own := [("cell", 3)]) (g := gName 3) (by rfl) sc.nd (pi_seqV (K := K) (pv 2)) (blkOk_by (N := ["stock", "seen", "chosen", "cell", "name", "stamp"]) (sc := defScope s_is_fast) (own := [("cell", 3)]) (by decide +kernel)) (fun _ _ _ _ _ => (pg_name (i := 3) sc.nd rfl (Or.inl rfl))) (fun _ _ _ _ _ => pts_nil) (fun _ _ _ _ _ => (pe_cmpR op_eq (pe_ix ix_str (pv 1) (pv 3) (fun _ _ => rfl)) (pe_glob (v := .str (S [45])) rfl gc_DASH ⟨_, rfl⟩) (nomark _)))) pa_nil))) (pss_one (ps_ret pe_bl)) pss_nil)
    (pss_one (ps_ret (pe_callB (cr_all_k (K := K)) (by rfl) T.b_all (by decide +kernel) (pa_cons (pe_lc (own := [("name", 4), ("stamp", 5)]) (g := gTup K 2 (gCons (gName 4) (gCons (gName 5) gNil))) (by rfl) sc.nd (pi_own (K := K) F_iter (hr.mono (by decide)) (pv 0)) (blkOk_by (N := ["stock", "seen", "chosen", "cell", "name", "stamp"]) (sc := defScope s_is_fast) (own := [("name", 4), ("stamp", 5)]) (by decide +kernel)) (fun _ _ _ _ _ => (pg_tup rfl (pgs_cons (pg_name (i := 4) sc.nd rfl (Or.inl rfl)) (pgs_cons (pg_name (i := 5) sc.nd rfl (Or.inl rfl)) pgs_nil)))) (fun _ _ _ _ _ => (pts_one (pt_val (pe_callH C_covers_any (hr.mono (by decide)) (pa_cons (pv 5) (pa_cons (pv 2) pa_nil)))))) (fun _ _ _ _ _ => (pe_callH C_differs_at (hr.mono (by decide)) (pa_cons (pv 5) (pa_cons (pv 1) (pa_cons (pv 2) pa_nil)))))) pa_nil))))), ?_⟩
  refine a_when (K := K) (b := cs.any (bareC seen)) (et2 (Er.to (er_cb (era_cons (er_lcB (b := b) (cs := cs) (i := 2) (j := 3) (bareC seen) rfl (hc.mono hA) hp.cz (fun _ => rfl) fun c hm H1 e1 => ?_) era_nil) rc_anyBN) (by rw [List.any_map]; rfl))) (fun hb A1 e1 => ?_) fun hb A1 e1 => ?_
  · have h1 := hp.cb c hm
    exact Er.to (er_op (er_sign (l := seen) (n := c) (er_v rfl) (er_v rfl) (by omega) (by omega)) er_c ro_eqC) (by unfold bareC; simp)
  · refine hk (.bl false) G A1 (Step.on hA e1) ?_
    show V.bl false = V.bl (fastM sts seen cs)
    unfold fastM
    rw [hb]
    rfl
  · refine s_ret (K := K) (G := G) (d := .b (((sts.filter fun p => cs.any (covC p.2)).map fun p => cs.any (diffC p.2 seen)).all id)) (ef_cb (efa_cons (Ef.to (ef_lc (its := sts) (inj := fun p => Dd.U [.s (S p.1), .s (S p.2)]) (vs := [4, 5]) (fun p => cs.any (covC p.2)) (fun p => Dd.b (cs.any (diffC p.2 seen))) (if_stock rfl hx) (by omega) (fun i p v G' A' e3 e4 hi hv => ?_)) (by rw [List.map_map]; rfl)) efa_nil) rf_allB) (hA.trans e1) ?_ fun v G' A' st z => hk v G' A' ((Step.on hA e1).trans st) z
    · have hm := List.mem_of_getElem? hi
      have hl := hp.st p hm
      refine ⟨[some vst, some (.str (S seen)), some vc, none, some (.str (S p.1)), some (.str (S p.2))], fun Q q => g_two e4 hv fun v1 v2 h1 h2 => ?_, rfl, ?_, fun _ => ef_flat (er_call ((p.2, seen), b, cs) (era_cons (er_v rfl) (era_cons (er_v rfl) (era_cons (er_var rfl (hc.mono e3)) era_nil))) rfl ⟨⟨by show p.2.length = seen.length; omega, by show p.2.length ≤ 1000; omega⟩, hp.cz, fun c hm => by show c < p.2.length; rw [hl]; exact hp.cb c hm⟩)⟩
      · obtain rfl : v1 = V.str (S p.1) := h1
        obtain rfl : v2 = V.str (S p.2) := h2
        exact q
      · exact et2 (er_call (p.2, b, cs) (era_cons (er_v rfl) (era_cons (er_var rfl (hc.mono (e3.trans e4))) era_nil)) rfl ⟨by show p.2.length ≤ 1000; omega, hp.cz, fun c hm => by show c < p.2.length; rw [hl]; exact hp.cb c hm⟩)
    · show Dd.b _ = Dd.b (fastM sts seen cs)
      unfold fastM
      rw [hb]
      rfl
abbrev s_is_refusal : Stmt := topS 39
theorem sc_is_refusal : FnScope ["stock", "start", "seen", "chosen", "cell"] ["stock", "start", "seen", "chosen"] (defScope s_is_refusal) := ⟨rfl, rfl, rfl, by decide +kernel, rfl, by decide +kernel, by decide +kernel⟩

def refM (sts : List (List Nat × List Nat)) (start seen : List Nat) (cs : List Nat) : Bool := fastM sts seen cs && cs.any (mdC start seen)
abbrev sp_is_refusal (K : PySem.W.Frag) (C : Addr) : Sp := spF K (fun a : (Nat × List (List Nat × List Nat)) × (List Nat × List Nat) × Bool × List Nat => CellsOk a.1.1 a.1.2 a.2.1.2 a.2.2.2 ∧ a.2.1.1.length = a.1.1) (fun a => [stockD K C (a.1.1 : Int) a.1.2, .s (S a.2.1.1), .s (S a.2.1.2), csD a.2.2.1 a.2.2.2]) fun a => .b (refM a.1.2 a.2.1.1 a.2.1.2 a.2.2.2)
theorem fn_is_refusal {C : Addr} (T : Txt K mg) {f : Addr} {fd : FuncData} (F : Fun K "is_refusal" "is_refusal" s_is_refusal f fd) (C_is_fast : Has P w K mg base 2 "is_fast" ["stock", "seen", "chosen"] (sp_is_fast K C)) (C_marks_differ : Has P w K mg base 1 "marks_differ" ["one", "two", "cell"] (sp_marks K)) : FnOk P w K mg base CX0 3 f fd ["stock", "start", "seen", "chosen"] (sp_is_refusal K C) := by
  refine Fun.okF F sc_is_refusal (fun _ => rfl) fun cdv Ar outer s G A a vs Q E hr hp hA hv hk => ?_
  obtain ⟨⟨n, sts⟩, ⟨start, seen⟩, b, cs⟩ := a
  obtain ⟨hp, hst⟩ := hp
  replace hp : CellsOk n sts seen cs := hp
  replace hst : start.length = n := hst
  rcases hv with _ | ⟨hx, _ | ⟨h1, _ | ⟨h2, _ | ⟨hc, _ | _⟩⟩⟩⟩
  rename_i vst v1 v2 vc
  obtain rfl : v1 = V.str (S start) := h1
  obtain rfl : v2 = V.str (S seen) := h2
  replace hx : Is K G (stockD K C (n : Int) sts) vst := hx
  replace hc : Is K G (csD b cs) vc := hc
  have sc := sc_is_refusal
  have sl := hp.sl
  have sz := hp.sz
  refine ⟨_, (pss_cons (ps_if (pt_not (pt_val (pe_callH C_is_fast (hr.mono (by decide)) (pa_cons (pv 0) (pa_cons (pv 2) (pa_cons (pv 3) pa_nil)))))) (pss_one (ps_ret pe_bl)) pss_nil)
    (pss_one (ps_ret (pe_callB (cr_any_k (K := K)) (by rfl) T.b_any (by decide +kernel) (pa_cons (pe_lc (own := [("cell", 4)]) (g := gName 4) (by rfl) sc.nd (pi_seqV (K := K) (pv 3)) (blkOk_by (N := ["stock", "start", "seen", "chosen", "cell"]) (sc := defScope s_is_refusal) (own := [("cell", 4)]) (by decide +kernel)) (fun _ _ _ _ _ => (pg_name (i := 4) sc.nd rfl (Or.inl rfl))) (fun _ _ _ _ _ => pts_nil) (fun _ _ _ _ _ => (pe_callH C_marks_differ (hr.mono (by decide)) (pa_cons (pv 1) (pa_cons (pv 2) (pa_cons (pv 4) pa_nil)))))) pa_nil))))), ?_⟩
  refine a_when (K := K) (b := !fastM sts seen cs) (et_nt (et2 (er_callF (n, sts, seen, b, cs) (era_cons (er_var rfl (hx.mono hA)) (era_cons (er_v rfl) (era_cons (er_var rfl (hc.mono hA)) era_nil))) rfl hp))) (fun hb A1 e1 => ?_) fun hb A1 e1 => ?_
  · refine hk (.bl false) G A1 (Step.on hA e1) ?_
    show V.bl false = V.bl (refM sts start seen cs)
    unfold refM
    rw [show fastM sts seen cs = false by simpa using hb]
    rfl
  · refine s_ret (K := K) (G := G) (d := .b (cs.any (mdC start seen))) (ef_flat (Er.to (er_cb (era_cons (er_lcB (b := b) (cs := cs) (i := 3) (j := 4) (mdC start seen) rfl hc hp.cz (fun _ => rfl) fun c hm H1 e1 => ?_) era_nil) rc_anyBN) (by rw [List.any_map]; rfl))) (hA.trans e1) ?_ fun v G' A' st z => hk v G' A' ((Step.on hA e1).trans st) z
    · have hcb := hp.cb c hm
      exact er_call (start, seen, c) (era_cons (er_v rfl) (era_cons (er_v rfl) (era_cons (er_v rfl) era_nil))) rfl ⟨⟨by show start.length = seen.length; omega, by show start.length ≤ 1000; omega⟩, by show c < start.length; omega⟩
    · show Dd.b _ = Dd.b (refM sts start seen cs)
      unfold refM
      rw [show fastM sts seen cs = true by simpa using hb]
      rfl
end
end Mi

set_option maxHeartbeats 4000000
namespace Mi
open PySem PySem.Spec PyProof.Rows L2 Evl
local macro_rules | `(tactic| walk_at "side") => `(tactic| (first | assumption | omega | exact rfl | decide | (simp only [List.length_cons, List.length_nil, List.length_map, List.length_append, List.length_replicate] <;> omega)))
local macro_rules | `(tactic| walk_at "ro") => `(tactic| (first
  | with_reducible exact ro_I0
  | with_reducible exact ro_1018
  | with_reducible exact ro_neC
  | with_reducible exact ro_eqC
  | with_reducible exact ro_neI
  | with_reducible exact ro_eqI
  | with_reducible exact ro_neB
  | with_reducible exact ro_eqB
  | ((with_reducible apply ro_mod); (walk_at "side"))
  | ((with_reducible apply ro_div) <;> (walk_at "side"))
  | ((with_reducible apply ro_divW) <;> (walk_at "side"))
  | with_reducible exact ro_1012
  | with_reducible exact ro_1015
  | ((with_reducible apply ro_mulL) <;> (walk_at "side"))
  | ((with_reducible apply ro_mulR) <;> (walk_at "side"))
  | ((with_reducible apply ro_addC); (walk_at "side"))
  | ((with_reducible apply ro_ixC) <;> (walk_at "side"))
  | ((with_reducible apply ro_ixI) <;> (walk_at "side"))
  | ((with_reducible apply ro_ixIN) <;> (walk_at "side"))
  | ((with_reducible apply ro_ixT2) <;> (walk_at "side"))
  | ((with_reducible apply ro_ixG) <;> (walk_at "side"))
  | ((with_reducible apply ro_eq); exact rfl)
  | ((with_reducible apply ro_ne); exact rfl)
  | with_reducible exact ro_isN
  | with_reducible exact ro_notN
  | with_reducible exact ro_eqL
  | with_reducible exact ro_neL
  | with_reducible exact ro_eqU
  | ((with_reducible apply ro_cat); (walk_at "side"))
  | with_reducible exact ro_inLi
  | with_reducible exact ro_inNi
  | with_reducible exact ro_inUi
  | ((with_reducible apply ro_inL) <;> (walk_at "side"))
  | ((with_reducible apply ro_inN) <;> (walk_at "side"))
  | ((with_reducible apply ro_inU) <;> (walk_at "side"))))
local macro_rules | `(tactic| walk_at "rc") => `(tactic| (first
  | with_reducible exact rc_int
  | with_reducible exact rc_intB
  | with_reducible exact rc_max2
  | ((with_reducible apply rc_lenC); (walk_at "side"))
  | with_reducible exact rc_lenI
  | with_reducible exact rc_lenT
  | with_reducible exact rc_lenIN
  | with_reducible exact rc_lenTN
  | with_reducible exact rc_lenL
  | with_reducible exact rc_lenN
  | with_reducible exact rc_lenU
  | with_reducible exact rc_listL
  | with_reducible exact rc_listU
  | with_reducible exact rc_tupL
  | with_reducible exact rc_tupN
  | ((with_reducible apply rc_isi_int); decide +kernel)
  | ((with_reducible apply rc_isi_str); decide +kernel)
  | ((with_reducible apply rc_isi_bl); decide +kernel)
  | ((with_reducible apply rc_isi_non); decide +kernel)
  | ((with_reducible apply rc_isi_u); decide +kernel)
  | ((with_reducible apply rc_isi_l); decide +kernel)))
local macro_rules | `(tactic| walk_at "er") => `(tactic| (first
  | ((with_reducible apply er_var); (exact rfl); assumption)
  | ((with_reducible apply er_v); exact rfl)
  | with_reducible exact er_c
  | ((with_reducible apply er_pick); (walk_at "er"); (walk_at "er"); (walk_at "er"))
  | ((with_reducible apply er_op); (walk_at "er"); (walk_at "er"); (walk_at "ro"))
  | ((with_reducible apply er_cb); (walk_at "era"); (walk_at "rc"))
  | ((with_reducible apply er_lst'); (walk_at "era"); (exact rfl); (walk_at "side"))
  | ((with_reducible apply er_tup'); (walk_at "era"); (exact rfl); (walk_at "side"))
  | ((with_reducible apply er_notV); (walk_at "er"))
  | ((with_reducible apply er_andV); (walk_at "er"); (intro _; (walk_at "er")))
  | ((with_reducible apply er_orV); (walk_at "er"); (intro _; (walk_at "er")))
  | ((with_reducible apply er_ite); (walk_at "et"); (intro _; (walk_at "er")); (intro _; (walk_at "er")))))
local macro_rules | `(tactic| walk_at "era") => `(tactic| (first
  | with_reducible exact era_nil
  | ((with_reducible apply era_cons); (walk_at "er"); (walk_at "era"))))
local macro_rules | `(tactic| walk_at "et") => `(tactic| (first
  | ((with_reducible apply et_an); (walk_at "et"); (intro _; (walk_at "et")))
  | ((with_reducible apply et_orr); (walk_at "et"); (intro _; (walk_at "et")))
  | ((with_reducible apply et_nt); (walk_at "et"))
  | ((with_reducible apply et1); (walk_at "er"))
  | ((with_reducible apply et2); (walk_at "er"))))

section
variable {P : Program} {w : World} {K : PySem.W.Frag} {mg : Str → Option Value} {base : Heap}
/-! ### the law's own walk -/
abbrev s__law_first : Stmt := topS 60
theorem sc__law_first : FnScope ["stamps", "stay", "k"] ["stamps", "stay"] (defScope s__law_first) := ⟨rfl, rfl, rfl, by decide +kernel, rfl, by decide +kernel, by decide +kernel⟩

def peelL (stay : List Nat) (p : List Nat × List Nat) : Bool := agreeM p.2 stay && !decide (freeM stay p.2 = stay)
def idxV : Option Nat → V
  | none => .non
  | some k => .int (k : Int)
structure LotOk (size : Nat) (sts : List (List Nat × List Nat)) : Prop where
  few : sts.length ≤ 1000
  st : ∀ p ∈ sts, p.2.length = size
  sz : size ≤ 1000
/-- stamps[k][1] -/
theorem er_stamp {σ : L2.St} {H : Hp} {tl tk : TE} {sts : List (List Nat × List Nat)} {k : Nat} {p : List Nat × List Nat} (hl : Er K tl σ H (.L (stD sts))) (hk : Er K tk σ H (.i (k : Int))) (hp : sts[k]? = some p) : Er K (tOp (rIxL K) (tOp (rIxL K) tl tk) (tC (.int 1))) σ H (.s (S p.2)) :=
  er_place (i := 1) (ds := [.s (S p.1), .s (S p.2)]) (er_place (i := k) hl hk (by rw [stD, List.getElem?_map, hp]; rfl)) er_c rfl
abbrev sp__law_first (K : PySem.W.Frag) : Sp := spR K (fun a : List (List Nat × List Nat) × List Nat => LotOk a.2.length a.1) (fun a => [.L (stD a.1), .s (S a.2)]) fun a => .v (idxV (a.1.findIdx? (peelL a.2)))
theorem findIdx_none {α : Type} {l : List α} {p : α → Bool} {i : Nat} {x : α} (h : l[i]? = some x) (hn : ∀ y ∈ l.take i, p y = false) (hx : p x = true) : l.findIdx? p = some i := by
  obtain ⟨hi, rfl⟩ := List.getElem?_eq_some_iff.mp h
  rw [List.findIdx?_eq_some_iff_getElem]
  refine ⟨hi, hx, fun j hj => ?_⟩
  have := hn l[j] (by
    rw [List.mem_take_iff_getElem]
    exact ⟨j, by omega, rfl⟩)
  simp [this]
theorem has__law_first (T : Txt K mg) (h : At K mg "_law_first" s__law_first ["stamps", "stay"]) (C__law_agree : Has P w K mg base 1 "_law_agree" ["one", "two"] (sp__law_agree K)) (C__law_free : Has P w K mg base 1 "_law_free" ["one", "two"] (sp__law_free K)) : Has P w K mg base 2 "_law_first" ["stamps", "stay"] (sp__law_first K) := by
  refine h.hasR sc__law_first (fun _ => rfl) fun f cdv A outer s H a vs Q E hr hp hv hk => ?_
  obtain ⟨sts, stay⟩ := a
  replace hp : LotOk stay.length sts := hp
  rcases hv with _ | ⟨hs, _ | ⟨rfl, _ | _⟩⟩
  rename_i x
  replace hs : Is K H (.L (stD sts)) x := hs
  have sc := sc__law_first
  have few := hp.few
  have sz := hp.sz
  refine ⟨_, (pss_cons (ps_for PassesOwn.never rfl (pi_range1 (by rfl) T.b_range (pa_cons (pe_callB (cr_len_k (K := K)) (by rfl) T.b_len (by decide +kernel) (pa_cons (pv 0) pa_nil)) pa_nil)) (pg_name (i := 2) sc.nd rfl (Or.inl rfl)) (pss_one (ps_if (PW.pt (pw_and (pt_val (pe_callH C__law_agree (hr.mono (by decide)) (pa_cons (pe_ix (ix_list_k (K := K)) (pe_ix (ix_list_k (K := K)) (pv 0) (pv 2) (fun _ _ => rfl)) pe_int (fun _ _ => rfl)) (pa_cons (pv 1) pa_nil)))) (pw_and1 (pt_cmpR op_ne (pe_callH C__law_free (hr.mono (by decide)) (pa_cons (pv 1) (pa_cons (pe_ix (ix_list_k (K := K)) (pe_ix (ix_list_k (K := K)) (pv 0) (pv 2) (fun _ _ => rfl)) pe_int (fun _ _ => rfl)) pa_nil))) (pv 1) (nomark _))))) (pss_one (ps_ret (pv 2))) pss_nil)))
    (pss_one (ps_ret pe_non))), ?_⟩
  refine b_forR1 (K := K) (n := sts.length) ?_ (by omega) (fun i σ' H' => ∃ y, σ' = [some x, some (.str (S stay)), y] ∧ Ex H H' ∧ ∀ q ∈ sts.take i, peelL stay q = false) (fun H1 e1 => ⟨none, rfl, e1, by simp⟩) ?_ ?_
  · exact era_cons (Er.to (er_cb (era_cons (er_var rfl hs) era_nil) rc_lenLd) (by rw [stD_len])) era_nil
  · rintro i σ' H' hi ⟨y, rfl, e, hM⟩
    have hp1 : sts[i]? = some sts[i] := List.getElem?_eq_getElem hi
    have hl := hp.st _ (List.getElem_mem hi)
    generalize sts[i] = p at hp1 hl
    have sta : ∀ {H1 : Hp}, Ex H' H1 → Er K (tOp (rIxL K) (tOp (rIxL K) (tVar 0) (tVar 2)) (tC (.int 1))) [some x, some (.str (S stay)), some (.int (i : Int))] H1 (.s (S p.2)) := fun e1 => er_stamp (er_var rfl (hs.mono (e.trans e1))) (er_v rfl) hp1
    refine a_when1 (K := K) (b := peelL stay p) (et_an (et2 (er_call (p.2, stay) (era_cons (sta (Ex.refl _)) (era_cons (er_v rfl) era_nil)) rfl ⟨hl, by show p.2.length ≤ 1000; omega⟩)) fun _ => et1 (er_op (er_call (stay, p.2) (era_cons (er_v rfl) (era_cons (sta (Ex.refl _)) era_nil)) rfl ⟨hl.symm, by show stay.length ≤ 1000; omega⟩) (er_v rfl) ro_neC)) (fun hb H3 e3 => ?_) fun hb H3 e3 => ?_
    · refine a_rete (K := K) (er_v rfl) ?_ (e.trans e3) hk
      show Dd.i (i : Int) = Dd.v (idxV (sts.findIdx? (peelL stay)))
      rw [findIdx_none hp1 hM hb]
      rfl
    · refine ⟨some (.int (i : Int)), rfl, e.trans e3, fun q hq => ?_⟩
      rw [List.take_add_one, hp1, List.mem_append] at hq
      rcases hq with hq | hq
      · exact hM q hq
      · have hq2 : q = p := by simpa using hq
        rw [hq2]
        exact hb
  · rintro σ' H' ⟨y, rfl, e, hM⟩
    rw [List.take_length] at hM
    refine a_rete (K := K) er_c ?_ e hk
    show Dd.v V.non = Dd.v (idxV (sts.findIdx? (peelL stay)))
    rw [List.findIdx?_eq_none_iff.mpr hM]
    rfl
abbrev s__law_ground : Stmt := topS 63
theorem sc__law_ground : FnScope ["base", "stay", "both", "k"] ["base", "stay"] (defScope s__law_ground) := ⟨rfl, rfl, rfl, by decide +kernel, rfl, by decide +kernel, by decide +kernel⟩

def groundM (base stay : List Nat) : List Nat := (pressM base stay).map fun c => if c = 45 then 46 else c
abbrev sp__law_ground (K : PySem.W.Frag) : Sp := spR K (fun a : List Nat × List Nat => a.1.length = a.2.length ∧ a.1.length ≤ 1000) (fun a => [.s (S a.1), .s (S a.2)]) fun a => .s (S (groundM a.1 a.2))
theorem has__law_ground (T : Txt K mg) (h : At K mg "_law_ground" s__law_ground ["base", "stay"]) (C__law_press : Has P w K mg base 1 "_law_press" ["one", "two"] (sp__law_press K)) : Has P w K mg base 2 "_law_ground" ["base", "stay"] (sp__law_ground K) := by
  refine h.hasR sc__law_ground (fun _ => rfl) fun f cdv A outer s H a vs Q E hr hp hv hk => ?_
  obtain ⟨one, two⟩ := a
  obtain ⟨h1, h2⟩ := hp
  replace h1 : one.length = two.length := h1
  replace h2 : one.length ≤ 1000 := h2
  rcases hv with _ | ⟨rfl, _ | ⟨rfl, _ | _⟩⟩
  have sc := sc__law_ground
  have pl := pressM_len h1
  refine ⟨_, (pss_cons (ps_set (i := 2) sc.nd rfl (Or.inr rfl) (pe_callH C__law_press (hr.mono (by decide)) (pa_cons (pv 0) (pa_cons (pv 1) pa_nil))))
    (pss_one (ps_ret (pe_bm_k (K := K) PySem.F.plainAttrs_str PySem.F.slot_str_join PySem.F.type_str_join (mt_join_k (K := K)) (pe_strS [] (by rfl)) (pa_cons (pe_lc (own := [("k", 3)]) (g := gName 3) (by rfl) sc.nd (pi_range1 (by rfl) T.b_range (pa_cons (pe_callB cr_lenStr (by rfl) T.b_len (by decide +kernel) (pa_cons (pv 2) pa_nil)) pa_nil)) (blkOk_by (N := ["base", "stay", "both", "k"]) (sc := defScope s__law_ground) (own := [("k", 3)]) (by decide +kernel)) (fun _ _ _ _ _ => (pg_name (i := 3) sc.nd rfl (Or.inl rfl))) (fun _ _ _ _ _ => pts_nil) (fun _ _ _ _ _ => (pe_ix (ix_list_k (K := K)) (pe_lst (pa_cons (pe_ix ix_str (pv 2) (pv 3) (fun _ _ => rfl)) (pa_cons (pe_strS [46] (by rfl)) pa_nil))) (pe_callTy cr_int (by rfl) T.b_int (by decide +kernel) (pa_cons (pe_cmpR op_eq (pe_ix ix_str (pv 2) (pv 3) (fun _ _ => rfl)) (pe_strS [45] (by rfl)) (nomark _)) pa_nil)) (fun _ _ => rfl)))) pa_nil))))), ?_⟩
  refine a_setv (K := K) (x := .str (S (pressM one two))) (er_call (one, two) (era_cons (er_v rfl) (era_cons (er_v rfl) era_nil)) rfl ⟨h1, h2⟩) fun H1 e1 => ?_
  refine a_rete (K := K) (er_bm (K := K) (d0 := .s (S [])) (ds := [.n ((groundM one two).map fun c => V.str (S [c]))]) er_c (era_cons (Er.to (er_lcR' (K := K) (n := (pressM one two).length) (vs := [3]) (fun k => V.str (S [if (pressM one two).getD k 0 = 45 then 46 else (pressM one two).getD k 0])) ?_ (by omega) (fun _ => rfl) ?_) ?_) era_nil) (rm_joinC ?_)) rfl e1 hk
  · exact era_cons (er_cb (era_cons (er_v rfl) era_nil) (rc_lenC (z := pressM one two) (by omega))) era_nil
  · intro k H2 e2 hk2
    refine Er.to (er_pickC (b := decide ([(pressM one two).getD k 0] = [45])) (c := (pressM one two).getD k 0) (e := 46) (er_sign (l := pressM one two) (n := k) (er_v rfl) (er_v rfl) hk2 (by omega)) er_c (er_op (er_sign (l := pressM one two) (n := k) (er_v rfl) (er_v rfl) hk2 (by omega)) er_c ro_eqC)) ?_
    by_cases hc : (pressM one two).getD k 0 = 45 <;> simp [hc]
  · unfold groundM
    rw [List.map_map]
    refine congrArg Dd.n ?_
    apply List.ext_getElem
    · simp
    · intro i hi1 hi2
      simp only [List.length_map, List.length_range] at hi1
      simp only [List.getElem_map, List.getElem_range, Function.comp]
      rw [List.getD_eq_getElem?_getD, List.getElem?_eq_getElem hi1]
      rfl
  · unfold groundM
    rw [List.length_map]
    omega
end
end Mi

set_option maxHeartbeats 4000000
namespace Mi
open PySem PySem.Spec PyProof.Rows L2 Evl
local macro_rules | `(tactic| walk_at "side") => `(tactic| (first | assumption | omega | exact rfl | decide | (simp only [List.length_cons, List.length_nil, List.length_map, List.length_append, List.length_replicate] <;> omega)))
local macro_rules | `(tactic| walk_at "ro") => `(tactic| (first
  | with_reducible exact ro_I0
  | with_reducible exact ro_1018
  | with_reducible exact ro_neC
  | with_reducible exact ro_eqC
  | with_reducible exact ro_neI
  | with_reducible exact ro_eqI
  | with_reducible exact ro_neB
  | with_reducible exact ro_eqB
  | ((with_reducible apply ro_mod); (walk_at "side"))
  | ((with_reducible apply ro_div) <;> (walk_at "side"))
  | ((with_reducible apply ro_divW) <;> (walk_at "side"))
  | with_reducible exact ro_1012
  | with_reducible exact ro_1015
  | ((with_reducible apply ro_mulL) <;> (walk_at "side"))
  | ((with_reducible apply ro_mulR) <;> (walk_at "side"))
  | ((with_reducible apply ro_addC); (walk_at "side"))
  | ((with_reducible apply ro_ixC) <;> (walk_at "side"))
  | ((with_reducible apply ro_ixI) <;> (walk_at "side"))
  | ((with_reducible apply ro_ixIN) <;> (walk_at "side"))
  | ((with_reducible apply ro_ixT2) <;> (walk_at "side"))
  | ((with_reducible apply ro_ixG) <;> (walk_at "side"))
  | ((with_reducible apply ro_eq); exact rfl)
  | ((with_reducible apply ro_ne); exact rfl)
  | with_reducible exact ro_isN
  | with_reducible exact ro_notN
  | with_reducible exact ro_eqL
  | with_reducible exact ro_neL
  | with_reducible exact ro_eqU
  | ((with_reducible apply ro_cat); (walk_at "side"))
  | with_reducible exact ro_inLi
  | with_reducible exact ro_inNi
  | with_reducible exact ro_inUi
  | ((with_reducible apply ro_inL) <;> (walk_at "side"))
  | ((with_reducible apply ro_inN) <;> (walk_at "side"))
  | ((with_reducible apply ro_inU) <;> (walk_at "side"))))
local macro_rules | `(tactic| walk_at "rc") => `(tactic| (first
  | with_reducible exact rc_int
  | with_reducible exact rc_intB
  | with_reducible exact rc_max2
  | ((with_reducible apply rc_lenC); (walk_at "side"))
  | with_reducible exact rc_lenI
  | with_reducible exact rc_lenT
  | with_reducible exact rc_lenIN
  | with_reducible exact rc_lenTN
  | with_reducible exact rc_lenL
  | with_reducible exact rc_lenN
  | with_reducible exact rc_lenU
  | with_reducible exact rc_listL
  | with_reducible exact rc_listU
  | with_reducible exact rc_tupL
  | with_reducible exact rc_tupN
  | ((with_reducible apply rc_isi_int); decide +kernel)
  | ((with_reducible apply rc_isi_str); decide +kernel)
  | ((with_reducible apply rc_isi_bl); decide +kernel)
  | ((with_reducible apply rc_isi_non); decide +kernel)
  | ((with_reducible apply rc_isi_u); decide +kernel)
  | ((with_reducible apply rc_isi_l); decide +kernel)))
local macro_rules | `(tactic| walk_at "er") => `(tactic| (first
  | ((with_reducible apply er_var); (exact rfl); assumption)
  | ((with_reducible apply er_v); exact rfl)
  | with_reducible exact er_c
  | ((with_reducible apply er_pick); (walk_at "er"); (walk_at "er"); (walk_at "er"))
  | ((with_reducible apply er_op); (walk_at "er"); (walk_at "er"); (walk_at "ro"))
  | ((with_reducible apply er_cb); (walk_at "era"); (walk_at "rc"))
  | ((with_reducible apply er_lst'); (walk_at "era"); (exact rfl); (walk_at "side"))
  | ((with_reducible apply er_tup'); (walk_at "era"); (exact rfl); (walk_at "side"))
  | ((with_reducible apply er_notV); (walk_at "er"))
  | ((with_reducible apply er_andV); (walk_at "er"); (intro _; (walk_at "er")))
  | ((with_reducible apply er_orV); (walk_at "er"); (intro _; (walk_at "er")))
  | ((with_reducible apply er_ite); (walk_at "et"); (intro _; (walk_at "er")); (intro _; (walk_at "er")))))
local macro_rules | `(tactic| walk_at "era") => `(tactic| (first
  | with_reducible exact era_nil
  | ((with_reducible apply era_cons); (walk_at "er"); (walk_at "era"))))
local macro_rules | `(tactic| walk_at "et") => `(tactic| (first
  | ((with_reducible apply et_an); (walk_at "et"); (intro _; (walk_at "et")))
  | ((with_reducible apply et_orr); (walk_at "et"); (intro _; (walk_at "et")))
  | ((with_reducible apply et_nt); (walk_at "et"))
  | ((with_reducible apply et1); (walk_at "er"))
  | ((with_reducible apply et2); (walk_at "er"))))

section
variable {P : Program} {w : World} {K : PySem.W.Frag} {mg : Str → Option Value} {base : Heap}
abbrev s__law_peel : Stmt := topS 61
theorem sc__law_peel : FnScope ["stamps", "shown", "order", "stay", "turn", "number"] ["stamps", "shown"] (defScope s__law_peel) := ⟨rfl, rfl, rfl, by decide +kernel, rfl, by decide +kernel, by decide +kernel⟩

def walkM (sts : List (List Nat × List Nat)) : Nat → List Nat → List Nat × List Nat
  | 0, stay => ([], stay)
  | n + 1, stay => match sts.findIdx? (peelL stay) with
    | none => ([], stay)
    | some k => (k :: (walkM sts n (freeM stay (sts.getD k ([], [])).2)).1, (walkM sts n (freeM stay (sts.getD k ([], [])).2)).2)
theorem walk_none {sts : List (List Nat × List Nat)} {n : Nat} {stay : List Nat} (h : sts.findIdx? (peelL stay) = none) : walkM sts n stay = ([], stay) := by
  cases n with
  | zero => rfl
  | succ n => simp [walkM, h]
theorem walk_some {sts : List (List Nat × List Nat)} {n k : Nat} {stay : List Nat} (h : sts.findIdx? (peelL stay) = some k) : walkM sts (n + 1) stay = (k :: (walkM sts n (freeM stay (sts.getD k ([], [])).2)).1, (walkM sts n (freeM stay (sts.getD k ([], [])).2)).2) := by
  simp [walkM, h]
def intsM (l : List Nat) : List Int := l.map fun k : Nat => (k : Int)
def peelD (r : List Nat × List Nat) : Dd := .N [.n (vis (intsM r.1)), .s (S r.2)]
abbrev sp__law_peel (K : PySem.W.Frag) : Sp := spF K (fun a : List (List Nat × List Nat) × List Nat => LotOk a.2.length a.1) (fun a => [.L (stD a.1), .s (S a.2)]) fun a => peelD (walkM a.1 (a.1.length + 1) a.2)
theorem freeM_len2 {a b : List Nat} (h : a.length = b.length) : (freeM a b).length = a.length := by
  unfold freeM
  rw [List.length_map, List.length_zip]
  omega
theorem has__law_peel (T : Txt K mg) (h : At K mg "_law_peel" s__law_peel ["stamps", "shown"]) (C__law_first : Has P w K mg base 2 "_law_first" ["stamps", "stay"] (sp__law_first K)) (C__law_free : Has P w K mg base 1 "_law_free" ["one", "two"] (sp__law_free K)) : Has P w K mg base 3 "_law_peel" ["stamps", "shown"] (sp__law_peel K) := by
  refine h.hasF sc__law_peel (fun _ => rfl) fun f cdv Ar outer s G A a vs Q E hr hp hA hv hk => ?_
  obtain ⟨sts, shown⟩ := a
  replace hp : LotOk shown.length sts := hp
  rcases hv with _ | ⟨hs, _ | ⟨hsh, _ | _⟩⟩
  rename_i x vs
  obtain rfl : vs = V.str (S shown) := hsh
  replace hs : Is K G (.L (stD sts)) x := hs
  have sc := sc__law_peel
  have few := hp.few
  have sz := hp.sz
  refine ⟨_, (pss_cons (ps_set (i := 2) sc.nd rfl (Or.inl rfl) (pe_lst pa_nil))
    (pss_cons (ps_set (i := 3) sc.nd rfl (Or.inl rfl) (pv 1))
    (pss_cons (ps_for PassesOwn.never rfl (pi_range1 (by rfl) T.b_range (pa_cons (pe_op op_add (pe_callB (cr_len_k (K := K)) (by rfl) T.b_len (by decide +kernel) (pa_cons (pv 0) pa_nil)) pe_int) pa_nil)) (pg_name (i := 4) sc.nd rfl (Or.inl rfl)) (pss_cons (ps_set (i := 5) sc.nd rfl (Or.inl rfl) (pe_callH C__law_first (hr.mono (by decide)) (pa_cons (pv 0) (pa_cons (pv 3) pa_nil))))
    (pss_cons (ps_if (pt_cmpR op_isN1 (pv 5) pe_non (nomark _)) (pss_one ps_break) pss_nil)
    (pss_cons (ps_expr (pe_bm_k (K := K) PySem.F.plainAttrs_list PySem.F.slot_list_append PySem.F.type_list_append mt_append (pv 2) (pa_cons (pv 5) pa_nil)))
    (pss_one (ps_set (i := 3) sc.nd rfl (Or.inl rfl) (pe_callH C__law_free (hr.mono (by decide)) (pa_cons (pv 3) (pa_cons (pe_ix (ix_list_k (K := K)) (pe_ix (ix_list_k (K := K)) (pv 0) (pv 5) (fun _ _ => rfl)) pe_int (fun _ _ => rfl)) pa_nil)))))))))
    (pss_one (ps_ret (pe_lst (pa_cons (pv 2) (pa_cons (pv 3) pa_nil)))))))), ?_⟩
  refine a_new fun o H1 ho e1 h1 => ?_
  refine a_setv (K := K) (x := .str (S shown)) (er_v rfl) fun H2 e2 => ?_
  have h2 := e2 o _ h1
  have E2 : Ex A H2 := e1.trans e2
  generalize hN : sts.length + 1 = N
  have fin : ∀ {D : Ends} {σ' : L2.St} {H' : Hp} {order stay : List Nat}, D.rt = Q → σ'[2]? = some (some (.ref o)) → σ'[3]? = some (some (.str (S stay))) → Ex A H' → H' o = some (.lst (vis (intsM order))) → (order, stay) = walkM sts N shown → tRet (tLst (tCons (tVar 2) (tCons (tVar 3) tNil))) D σ' H' := fun {D σ' H' order stay} hD q2 q3 e hO hW => by
    have S1 : Step G A (upd G o (.lst (vis (intsM order)))) H' := Step.seal (Step.on hA e) ho (ex_out hA ho) hO
    refine s_ret (K := K) (G := upd G o (.lst (vis (intsM order)))) (d := .N [.n (vis (intsM order)), .s (S stay)]) (ef_N (efa_cons (ef_var q2 ⟨o, rfl, upd_same⟩) (efa_cons (ef_flat (er_v q3)) efa_nil)) (by simp)) S1.v ?_ fun v G' A' st z => by rw [hD]; exact hk v G' A' (S1.trans st) z
    show peelD (order, stay) = peelD (walkM sts (sts.length + 1) shown)
    rw [hW, hN]
  refine b_forR1 (K := K) (n := N) ?_ (by omega) (fun i σ' H' => ∃ order stay y4 y5, σ' = [some x, some (.str (S shown)), some (.ref o), some (.str (S stay)), y4, y5] ∧ Ex A H' ∧ H' o = some (.lst (vis (intsM order))) ∧ stay.length = shown.length ∧ order.length = i ∧ i ≤ N ∧ (order ++ (walkM sts (N - i) stay).1, (walkM sts (N - i) stay).2) = walkM sts N shown) (fun H3 e3 => ⟨[], shown, none, none, rfl, E2.trans e3, e3 o _ h2, rfl, rfl, Nat.zero_le _, rfl⟩) ?_ ?_
  · exact era_cons (Er.to (er_op (Er.to (er_cb (era_cons (er_var rfl (hs.mono (hA.trans E2))) era_nil) rc_lenLd) (by rw [stD_len])) er_c ro_I0) (by rw [← hN]; simp)) era_nil
  · rintro i σ' H' hi ⟨order, stay, y4, y5, rfl, e, hO, hsl, hol, hiN, hW⟩
    refine a_setv (K := K) (x := idxV (sts.findIdx? (peelL stay))) (er_call (sts, stay) (era_cons (er_var rfl (hs.mono (hA.trans e))) (era_cons (er_v rfl) era_nil)) rfl ⟨few, fun p hp2 => by show p.2.length = stay.length; rw [hsl]; exact hp.st p hp2, by show stay.length ≤ 1000; omega⟩) fun H3 e3 => ?_
    have E3 := e.trans e3
    cases hf : sts.findIdx? (peelL stay) with
    | none =>
      refine a_when (K := K) (b := true) (et1 (er_op (er_v rfl) er_c (ro_isN (x := .non)))) (fun _ H4 e4 => ?_) fun hb => by cases hb
      rw [walk_none hf, List.append_nil] at hW
      exact fin rfl rfl rfl (E3.trans e4) (e4 o _ (e3 o _ hO)) hW
    | some k =>
      have hk1 : k < sts.length ∧ peelL stay (sts.getD k ([], [])) = true := by
        obtain ⟨hk2, hk3, _⟩ := List.findIdx?_eq_some_iff_getElem.mp hf
        refine ⟨hk2, ?_⟩
        rw [List.getD_eq_getElem?_getD, List.getElem?_eq_getElem hk2]
        exact hk3
      have hkp : sts[k]? = some (sts.getD k ([], [])) := by
        rw [List.getD_eq_getElem?_getD, List.getElem?_eq_getElem hk1.1]
        rfl
      have hpl := hp.st _ (List.mem_of_getElem? hkp)
      refine a_when (K := K) (b := false) (et1 (er_op (er_v rfl) er_c (ro_isN (x := .int (k : Int))))) (fun hb => by cases hb) fun _ H4 e4 => ?_
      have E4 := E3.trans e4
      refine b_app (K := K) (x := .int (k : Int)) (e4 o _ (e3 o _ hO)) (er_v rfl) (er_v rfl) (by simp [intsM]; omega) fun H5 e5 => ?_
      have E5 : Ex A (upd H5 o (.lst (vis (intsM order) ++ [.int (k : Int)]))) := Ex.mut (E4.trans e5) ho
      refine a_setv1 (K := K) (x := .str (S (freeM stay (sts.getD k ([], [])).2))) (er_call (stay, (sts.getD k ([], [])).2) (era_cons (er_v rfl) (era_cons (er_stamp (er_var rfl (hs.mono (hA.trans E5))) (er_v rfl) hkp) era_nil)) rfl ⟨by show stay.length = (sts.getD k ([], [])).2.length; omega, by show stay.length ≤ 1000; omega⟩) fun H6 e6 => ?_
      refine ⟨order ++ [k], freeM stay (sts.getD k ([], [])).2, some (.int (i : Int)), some (.int (k : Int)), rfl, E5.trans e6, ?_, ?_, ?_, by omega, ?_⟩
      · rw [e6 o _ upd_same]
        simp [intsM, vis]
      · rw [freeM_len2 (by omega), hsl]
      · rw [List.length_append, hol]
        rfl
      · rw [← hW]
        have e7 : N - i = (N - (i + 1)) + 1 := by omega
        rw [e7, walk_some hf, List.append_assoc]
        rfl
  · rintro σ' H' ⟨order, stay, y4, y5, rfl, e, hO, hsl, hol, hiN, hW⟩
    rw [Nat.sub_self] at hW
    have hW2 : (order, stay) = walkM sts N shown := by
      rw [← hW]
      show (order, stay) = (order ++ [], stay)
      rw [List.append_nil]
    exact fin rfl rfl rfl e hO hW2
end
end Mi

set_option maxHeartbeats 4000000
namespace Mi
open PySem PySem.Spec PyProof.Rows L2 Evl
local macro_rules | `(tactic| walk_at "side") => `(tactic| (first | assumption | omega | exact rfl | decide | (simp only [List.length_cons, List.length_nil, List.length_map, List.length_append, List.length_replicate] <;> omega)))
local macro_rules | `(tactic| walk_at "ro") => `(tactic| (first
  | with_reducible exact ro_I0
  | with_reducible exact ro_1018
  | with_reducible exact ro_neC
  | with_reducible exact ro_eqC
  | with_reducible exact ro_neI
  | with_reducible exact ro_eqI
  | with_reducible exact ro_neB
  | with_reducible exact ro_eqB
  | ((with_reducible apply ro_mod); (walk_at "side"))
  | ((with_reducible apply ro_div) <;> (walk_at "side"))
  | ((with_reducible apply ro_divW) <;> (walk_at "side"))
  | with_reducible exact ro_1012
  | with_reducible exact ro_1015
  | ((with_reducible apply ro_mulL) <;> (walk_at "side"))
  | ((with_reducible apply ro_mulR) <;> (walk_at "side"))
  | ((with_reducible apply ro_addC); (walk_at "side"))
  | ((with_reducible apply ro_ixC) <;> (walk_at "side"))
  | ((with_reducible apply ro_ixI) <;> (walk_at "side"))
  | ((with_reducible apply ro_ixIN) <;> (walk_at "side"))
  | ((with_reducible apply ro_ixT2) <;> (walk_at "side"))
  | ((with_reducible apply ro_ixG) <;> (walk_at "side"))
  | ((with_reducible apply ro_eq); exact rfl)
  | ((with_reducible apply ro_ne); exact rfl)
  | with_reducible exact ro_isN
  | with_reducible exact ro_notN
  | with_reducible exact ro_eqL
  | with_reducible exact ro_neL
  | with_reducible exact ro_eqU
  | ((with_reducible apply ro_cat); (walk_at "side"))
  | with_reducible exact ro_inLi
  | with_reducible exact ro_inNi
  | with_reducible exact ro_inUi
  | ((with_reducible apply ro_inL) <;> (walk_at "side"))
  | ((with_reducible apply ro_inN) <;> (walk_at "side"))
  | ((with_reducible apply ro_inU) <;> (walk_at "side"))))
local macro_rules | `(tactic| walk_at "rc") => `(tactic| (first
  | with_reducible exact rc_int
  | with_reducible exact rc_intB
  | with_reducible exact rc_max2
  | ((with_reducible apply rc_lenC); (walk_at "side"))
  | with_reducible exact rc_lenI
  | with_reducible exact rc_lenT
  | with_reducible exact rc_lenIN
  | with_reducible exact rc_lenTN
  | with_reducible exact rc_lenL
  | with_reducible exact rc_lenN
  | with_reducible exact rc_lenU
  | with_reducible exact rc_listL
  | with_reducible exact rc_listU
  | with_reducible exact rc_tupL
  | with_reducible exact rc_tupN
  | ((with_reducible apply rc_isi_int); decide +kernel)
  | ((with_reducible apply rc_isi_str); decide +kernel)
  | ((with_reducible apply rc_isi_bl); decide +kernel)
  | ((with_reducible apply rc_isi_non); decide +kernel)
  | ((with_reducible apply rc_isi_u); decide +kernel)
  | ((with_reducible apply rc_isi_l); decide +kernel)))
local macro_rules | `(tactic| walk_at "er") => `(tactic| (first
  | ((with_reducible apply er_var); (exact rfl); assumption)
  | ((with_reducible apply er_v); exact rfl)
  | with_reducible exact er_c
  | ((with_reducible apply er_pick); (walk_at "er"); (walk_at "er"); (walk_at "er"))
  | ((with_reducible apply er_op); (walk_at "er"); (walk_at "er"); (walk_at "ro"))
  | ((with_reducible apply er_cb); (walk_at "era"); (walk_at "rc"))
  | ((with_reducible apply er_lst'); (walk_at "era"); (exact rfl); (walk_at "side"))
  | ((with_reducible apply er_tup'); (walk_at "era"); (exact rfl); (walk_at "side"))
  | ((with_reducible apply er_notV); (walk_at "er"))
  | ((with_reducible apply er_andV); (walk_at "er"); (intro _; (walk_at "er")))
  | ((with_reducible apply er_orV); (walk_at "er"); (intro _; (walk_at "er")))
  | ((with_reducible apply er_ite); (walk_at "et"); (intro _; (walk_at "er")); (intro _; (walk_at "er")))))
local macro_rules | `(tactic| walk_at "era") => `(tactic| (first
  | with_reducible exact era_nil
  | ((with_reducible apply era_cons); (walk_at "er"); (walk_at "era"))))
local macro_rules | `(tactic| walk_at "et") => `(tactic| (first
  | ((with_reducible apply et_an); (walk_at "et"); (intro _; (walk_at "et")))
  | ((with_reducible apply et_orr); (walk_at "et"); (intro _; (walk_at "et")))
  | ((with_reducible apply et_nt); (walk_at "et"))
  | ((with_reducible apply et1); (walk_at "er"))
  | ((with_reducible apply et2); (walk_at "er"))))

section
variable {P : Program} {w : World} {K : PySem.W.Frag} {mg : Str → Option Value} {base : Heap}
def cvs (cs : List Nat) : List V := cs.map fun c : Nat => V.int (c : Int)
theorem cvs_at {cs : List Nat} {i : Nat} {y : V} (h : (cvs cs)[i]? = some y) : ∃ c, cs[i]? = some c ∧ V.int (c : Int) = y := by
  rw [cvs, List.getElem?_map] at h
  cases q : cs[i]? with
  | none => rw [q] at h; cases h
  | some c => rw [q] at h; exact ⟨c, rfl, Option.some.inj h⟩
abbrev s__law_fast : Stmt := topS 58
theorem sc__law_fast : FnScope ["stamps", "shown", "cells", "cell", "pair", "covered", "wrong"] ["stamps", "shown", "cells"] (defScope s__law_fast) := ⟨rfl, rfl, rfl, by decide +kernel, rfl, by decide +kernel, by decide +kernel⟩

def wrongC (t shown : List Nat) (c : Nat) : Bool := !decide (t.getD c 0 = shown.getD c 0)
def breaks (shown : List Nat) (cs : List Nat) (p : List Nat × List Nat) : Bool := decide (((cs.filter (covC p.2)).length : Int) > 0) && decide ((((cs.filter (covC p.2)).filter (wrongC p.2 shown)).length : Int) = 0)
def fastL (sts : List (List Nat × List Nat)) (shown cs : List Nat) : Bool := !(cs.any (bareC shown)) && !(sts.any (breaks shown cs))
abbrev sp__law_fast (K : PySem.W.Frag) : Sp := spR K (fun a : Nat × List (List Nat × List Nat) × List Nat × List Nat => CellsOk a.1 a.2.1 a.2.2.1 a.2.2.2) (fun a => [.L (stD a.2.1), .s (S a.2.2.1), .l (cvs a.2.2.2)]) fun a => .b (fastL a.2.1 a.2.2.1 a.2.2.2)
theorem any_next {α : Type} {l : List α} {p : α → Bool} {i : Nat} {x : α} (h : l[i]? = some x) (hn : (l.take i).any p = false) (hx : p x = false) : (l.take (i + 1)).any p = false := by
  rw [List.take_add_one, h, List.any_append, hn]
  simp [hx]
theorem any_is {α : Type} {l : List α} {p : α → Bool} {i : Nat} {x : α} (h : l[i]? = some x) (hx : p x = true) : l.any p = true := List.any_eq_true.mpr ⟨x, List.mem_of_getElem? h, hx⟩
theorem has__law_fast (T : Txt K mg) (h : At K mg "_law_fast" s__law_fast ["stamps", "shown", "cells"]) : Has P w K mg base 1 "_law_fast" ["stamps", "shown", "cells"] (sp__law_fast K) := by
  refine h.hasR sc__law_fast (fun _ => rfl) fun f cdv A outer s H a vs Q E hr hp hv hk => ?_
  obtain ⟨n, sts, shown, cs⟩ := a
  replace hp : CellsOk n sts shown cs := hp
  rcases hv with _ | ⟨hs, _ | ⟨rfl, _ | ⟨hc, _ | _⟩⟩⟩
  rename_i x xc
  replace hs : Is K H (.L (stD sts)) x := hs
  replace hc : Is K H (.l (cvs cs)) xc := hc
  have sc := sc__law_fast
  have few := hp.few
  have sz := hp.sz
  have sl := hp.sl
  have cz := hp.cz
  refine ⟨_, (pss_cons (ps_for PassesOwn.never rfl (pi_list_k (K := K) (pv 2)) (pg_name (i := 3) sc.nd rfl (Or.inl rfl)) (pss_one (ps_if (pt_cmpR op_eq (pe_ix ix_str (pv 1) (pv 3) (fun _ _ => rfl)) (pe_strS [45] (by rfl)) (nomark _)) (pss_one (ps_ret pe_bl)) pss_nil)))
    (pss_cons (ps_for PassesOwn.never rfl (pi_list_k (K := K) (pv 0)) (pg_name (i := 4) sc.nd rfl (Or.inr rfl)) (pss_cons (ps_setLc (i := 5) (own := [("cell", 3)]) (g := gName 3) (by rfl) sc.nd rfl rfl (sw_true rfl rfl rfl (by decide +kernel)) (pi_list_k (K := K) (pv 2)) (blkOk_by (N := ["stamps", "shown", "cells", "cell", "pair", "covered", "wrong"]) (sc := defScope s__law_fast) (own := [("cell", 3)]) (by decide +kernel)) (fun _ _ _ _ _ => (pg_name (i := 3) sc.nd rfl (Or.inl rfl))) (fun _ _ _ _ _ => (pts_one (pt_cmpR op_ne (pe_ix ix_str (pe_ix (ix_list_k (K := K)) (pv 4) pe_int (fun _ _ => rfl)) (pv 3) (fun _ _ => rfl)) (pe_strS [45] (by rfl)) (nomark _)))) (fun _ _ _ _ _ => (pv 3)))
    (pss_cons (ps_setLc (i := 6) (own := [("cell", 3)]) (g := gName 3) (by rfl) sc.nd rfl rfl (sw_true rfl rfl rfl (by decide +kernel)) (pi_list_k (K := K) (pv 5)) (blkOk_by (N := ["stamps", "shown", "cells", "cell", "pair", "covered", "wrong"]) (sc := defScope s__law_fast) (own := [("cell", 3)]) (by decide +kernel)) (fun _ _ _ _ _ => (pg_name (i := 3) sc.nd rfl (Or.inl rfl))) (fun _ _ _ _ _ => (pts_one (pt_cmpR op_ne (pe_ix ix_str (pe_ix (ix_list_k (K := K)) (pv 4) pe_int (fun _ _ => rfl)) (pv 3) (fun _ _ => rfl)) (pe_ix ix_str (pv 1) (pv 3) (fun _ _ => rfl)) (nomark _)))) (fun _ _ _ _ _ => (pv 3)))
    (pss_one (ps_if (PW.pt (pw_and (pt_cmpR op_gt (pe_callB (cr_len_k (K := K)) (by rfl) T.b_len (by decide +kernel) (pa_cons (pv 5) pa_nil)) pe_int (nomark _)) (pw_and1 (pt_cmpR op_eq (pe_callB (cr_len_k (K := K)) (by rfl) T.b_len (by decide +kernel) (pa_cons (pv 6) pa_nil)) pe_int (nomark _))))) (pss_one (ps_ret pe_bl)) pss_nil)))))
    (pss_one (ps_ret pe_bl)))), ?_⟩
  refine b_forL (K := K) (xs := cvs cs) (er_var rfl hc) (fun H5 i σ' H' => ∃ y, σ' = [some x, some (.str (S shown)), some xc, y, none, none, none] ∧ Ex H5 H' ∧ (cs.take i).any (bareC shown) = false) (fun H5 e5 => ⟨none, rfl, Ex.refl _, rfl⟩) (fun H5 i σ' H' ⟨_, _, e, _⟩ => e) ?_ ?_
  · rintro H5 i y σ' H6 e5 hi ⟨y0, rfl, e6, hM⟩
    obtain ⟨c, hc1, rfl⟩ := cvs_at hi
    have hcb := hp.cb c (List.mem_of_getElem? hc1)
    refine a_when1 (K := K) (b := bareC shown c) (et1 (Er.to (er_op (er_sign (l := shown) (n := c) (er_v rfl) (er_v rfl) (by omega) (by omega)) er_c ro_eqC) (by unfold bareC; simp))) (fun hb H7 e7 => ?_) fun hb H7 e7 => ⟨some (.int (c : Int)), rfl, e6.trans e7, any_next hc1 hM hb⟩
    refine a_rete (K := K) er_c ?_ ((e5.trans e6).trans e7) hk
    show Dd.b false = Dd.b (fastL sts shown cs)
    unfold fastL
    rw [any_is hc1 hb]
    rfl
  · rintro H5 σ' H' e5 ⟨y0, rfl, e6, hM⟩
    rw [cvs, List.length_map, List.take_length] at hM
    have e0 : Ex H H' := e5.trans e6
    refine b_for (K := K) (G := H') (ds := stD sts) (if_list (ef_var rfl (hs.mono e0))) (Ex.refl H') (fun i σ' G' A' => ∃ y4 y5 y6, σ' = [some x, some (.str (S shown)), some xc, y0, y4, y5, y6] ∧ Ex H' A' ∧ (sts.take i).any (breaks shown cs) = false) (fun G1 A1 s1 => ⟨none, none, none, rfl, s1.a, rfl⟩) ?_ ?_
    · rintro G1 eg i d v σ' G' A' G2 A2 hd ⟨y4, y5, y6, rfl, ea, hB⟩ e1 e2 s2 hv
      obtain ⟨p, hp1, rfl⟩ := stD_of hd
      have hvA : Is K A2 (.L [.s (S p.1), .s (S p.2)]) v := hv.mono s2.v
      have hl := hp.st p (List.mem_of_getElem? hp1)
      have E2 : Ex H A2 := (e0.trans ea).trans s2.a
      have pt : ∀ {σ : L2.St} {H1 : Hp}, Ex A2 H1 → σ[4]? = some (some v) → Er K (tOp (rIxL K) (tVar 4) (tC (.int 1))) σ H1 (.s (S p.2)) := fun e q => er_place (i := 1) (er_var q (hvA.mono e)) er_c rfl
      refine a_asg (K := K) (d := .n (cvs (cs.filter (covC p.2)))) (er_lcL (K := K) (its := cs) (inj := fun c : Nat => V.int (c : Int)) (vs := [3]) (covC p.2) (fun c : Nat => V.int (c : Int)) (er_var rfl (hc.mono E2)) (by omega) (fun _ => rfl) (fun j c H1 e hj => ?_) (fun j c H1 e hj _ => er_v rfl)) fun xo A3 e3 ho => ?_
      · have hcb := hp.cb c (List.mem_of_getElem? hj)
        exact Et.to (K := K) (et1 (er_op (er_sign (l := p.2) (n := c) (pt e rfl) (er_v rfl) (by omega) (by omega)) er_c ro_neC)) (by unfold covC; simp)
      refine a_asg (K := K) (d := .n (cvs ((cs.filter (covC p.2)).filter (wrongC p.2 shown)))) (er_lcL (K := K) (its := cs.filter (covC p.2)) (inj := fun c : Nat => V.int (c : Int)) (vs := [3]) (wrongC p.2 shown) (fun c : Nat => V.int (c : Int)) (Er.n2l (er_var rfl ho)) (Nat.le_trans (List.length_filter_le _ _) (by omega)) (fun _ => rfl) (fun j c H1 e hj => ?_) (fun j c H1 e hj _ => er_v rfl)) fun xw A4 e4 hw => ?_
      · have hcb := hp.cb c (List.mem_filter.mp (List.mem_of_getElem? hj)).1
        exact Et.to (K := K) (et1 (er_op (er_sign (l := p.2) (n := c) (pt (e3.trans e) rfl) (er_v rfl) (by omega) (by omega)) (er_sign (l := shown) (n := c) (er_v rfl) (er_v rfl) (by omega) (by omega)) ro_neC)) (by unfold wrongC; simp)
      refine a_when1 (K := K) (b := breaks shown cs p) (et_an (et1 (er_op (Er.to (er_cb (era_cons (er_var rfl (ho.mono e4)) era_nil) rc_lenN) (by rw [cvs, List.length_map])) er_c ro_I0)) fun _ => et1 (er_op (Er.to (er_cb (era_cons (er_var rfl hw) era_nil) rc_lenN) (by rw [cvs, List.length_map])) er_c ro_eqI)) (fun hb A5 e5 => ?_) fun hb A5 e5 => ?_
      · refine a_rete (K := K) er_c ?_ (((E2.trans e3).trans e4).trans e5) hk
        show Dd.b false = Dd.b (fastL sts shown cs)
        unfold fastL
        rw [any_is hp1 hb, Bool.not_true, Bool.and_false]
      · exact ⟨G2, ⟨_, _, _, rfl, (((ea.trans s2.a).trans e3).trans e4).trans e5, any_next hp1 hB hb⟩, e1.trans s2.g, ((s2.v.trans e3).trans e4).trans e5⟩
    · rintro σ' G' A' eg ev ⟨y4, y5, y6, rfl, ea, hB⟩
      rw [stD_len, List.take_length] at hB
      refine a_rete (K := K) er_c ?_ (e0.trans ea) hk
      show Dd.b true = Dd.b (fastL sts shown cs)
      unfold fastL
      rw [hM, hB]
      rfl
abbrev s__law_bars : Stmt := topS 67
theorem sc__law_bars : FnScope ["stamps", "base", "shown", "cells", "wrong", "cell"] ["stamps", "base", "shown", "cells"] (defScope s__law_bars) := ⟨rfl, rfl, rfl, by decide +kernel, rfl, by decide +kernel, by decide +kernel⟩

def wrongB (base shown : List Nat) (c : Nat) : Bool := !decide (base.getD c 0 = 45) && !decide (base.getD c 0 = shown.getD c 0)
def barsM (sts : List (List Nat × List Nat)) (base shown cs : List Nat) : Bool := decide (((cs.filter (wrongB base shown)).length : Int) > 0) && fastL sts shown cs
abbrev sp__law_bars (K : PySem.W.Frag) : Sp := spR K (fun a : (Nat × List (List Nat × List Nat)) × List Nat × List Nat × List Nat => CellsOk a.1.1 a.1.2 a.2.2.1 a.2.2.2 ∧ a.2.1.length = a.1.1) (fun a => [.L (stD a.1.2), .s (S a.2.1), .s (S a.2.2.1), .l (cvs a.2.2.2)]) fun a => .b (barsM a.1.2 a.2.1 a.2.2.1 a.2.2.2)
theorem has__law_bars (T : Txt K mg) (h : At K mg "_law_bars" s__law_bars ["stamps", "base", "shown", "cells"]) (C__law_fast : Has P w K mg base 1 "_law_fast" ["stamps", "shown", "cells"] (sp__law_fast K)) : Has P w K mg base 2 "_law_bars" ["stamps", "base", "shown", "cells"] (sp__law_bars K) := by
  refine h.hasR sc__law_bars (fun _ => rfl) fun f cdv A outer s H a vs Q E hr hp hv hk => ?_
  obtain ⟨⟨n, sts⟩, bs, shown, cs⟩ := a
  obtain ⟨hp, hb⟩ := hp
  replace hp : CellsOk n sts shown cs := hp
  replace hb : bs.length = n := hb
  rcases hv with _ | ⟨hs, _ | ⟨rfl, _ | ⟨rfl, _ | ⟨hc, _ | _⟩⟩⟩⟩
  rename_i x xc
  replace hs : Is K H (.L (stD sts)) x := hs
  replace hc : Is K H (.l (cvs cs)) xc := hc
  have sc := sc__law_bars
  have sz := hp.sz
  have sl := hp.sl
  have cz := hp.cz
  refine ⟨_, (pss_cons (ps_setLc (i := 4) (own := [("cell", 5)]) (g := gName 5) (by rfl) sc.nd rfl rfl (sw_true rfl rfl rfl (by decide +kernel)) (pi_list_k (K := K) (pv 3)) (blkOk_by (N := ["stamps", "base", "shown", "cells", "wrong", "cell"]) (sc := defScope s__law_bars) (own := [("cell", 5)]) (by decide +kernel)) (fun _ _ _ _ _ => (pg_name (i := 5) sc.nd rfl (Or.inl rfl))) (fun _ _ _ _ _ => (pts_one (PW.pt (pw_and (pt_cmpR op_ne (pe_ix ix_str (pv 1) (pv 5) (fun _ _ => rfl)) (pe_strS [45] (by rfl)) (nomark _)) (pw_and1 (pt_cmpR op_ne (pe_ix ix_str (pv 1) (pv 5) (fun _ _ => rfl)) (pe_ix ix_str (pv 2) (pv 5) (fun _ _ => rfl)) (nomark _))))))) (fun _ _ _ _ _ => (pv 5)))
    (pss_one (ps_ret (pe_and (pe_cmpR op_gt (pe_callB (cr_len_k (K := K)) (by rfl) T.b_len (by decide +kernel) (pa_cons (pv 4) pa_nil)) pe_int (nomark _)) (pe_one (pe_callH C__law_fast (hr.mono (by decide)) (pa_cons (pv 0) (pa_cons (pv 2) (pa_cons (pv 3) pa_nil))))))))), ?_⟩
  refine a_asg (K := K) (d := .n (cvs (cs.filter (wrongB bs shown)))) (er_lcL (K := K) (its := cs) (inj := fun c : Nat => V.int (c : Int)) (vs := [5]) (wrongB bs shown) (fun c : Nat => V.int (c : Int)) (er_var rfl hc) (by omega) (fun _ => rfl) (fun j c H1 e hj => ?_) (fun j c H1 e hj _ => er_v rfl)) fun xw H1 e1 hw => ?_
  · have hcb := hp.cb c (List.mem_of_getElem? hj)
    exact Et.to (K := K) (et_an (et1 (er_op (er_sign (l := bs) (n := c) (er_v rfl) (er_v rfl) (by omega) (by omega)) er_c ro_neC)) fun _ => et1 (er_op (er_sign (l := bs) (n := c) (er_v rfl) (er_v rfl) (by omega) (by omega)) (er_sign (l := shown) (n := c) (er_v rfl) (er_v rfl) (by omega) (by omega)) ro_neC)) (by unfold wrongB; simp)
  exact a_rete (K := K) (er_andV (er_op (Er.to (er_cb (era_cons (er_var rfl hw) era_nil) rc_lenN) (by rw [cvs, List.length_map])) er_c ro_I0) fun _ => er_call (n, sts, shown, cs) (era_cons (er_var rfl (hs.mono e1)) (era_cons (er_v rfl) (era_cons (er_var rfl (hc.mono e1)) era_nil))) rfl hp) rfl e1 hk
end
end Mi

set_option maxHeartbeats 4000000
namespace Mi
open PySem PySem.Spec PyProof.Rows L2 Evl
local macro_rules | `(tactic| walk_at "side") => `(tactic| (first | assumption | omega | exact rfl | decide | (simp only [List.length_cons, List.length_nil, List.length_map, List.length_append, List.length_replicate] <;> omega)))
local macro_rules | `(tactic| walk_at "ro") => `(tactic| (first
  | with_reducible exact ro_I0
  | with_reducible exact ro_1018
  | with_reducible exact ro_neC
  | with_reducible exact ro_eqC
  | with_reducible exact ro_neI
  | with_reducible exact ro_eqI
  | with_reducible exact ro_neB
  | with_reducible exact ro_eqB
  | ((with_reducible apply ro_mod); (walk_at "side"))
  | ((with_reducible apply ro_div) <;> (walk_at "side"))
  | ((with_reducible apply ro_divW) <;> (walk_at "side"))
  | with_reducible exact ro_1012
  | with_reducible exact ro_1015
  | ((with_reducible apply ro_mulL) <;> (walk_at "side"))
  | ((with_reducible apply ro_mulR) <;> (walk_at "side"))
  | ((with_reducible apply ro_addC); (walk_at "side"))
  | ((with_reducible apply ro_ixC) <;> (walk_at "side"))
  | ((with_reducible apply ro_ixI) <;> (walk_at "side"))
  | ((with_reducible apply ro_ixIN) <;> (walk_at "side"))
  | ((with_reducible apply ro_ixT2) <;> (walk_at "side"))
  | ((with_reducible apply ro_ixG) <;> (walk_at "side"))
  | ((with_reducible apply ro_eq); exact rfl)
  | ((with_reducible apply ro_ne); exact rfl)
  | with_reducible exact ro_isN
  | with_reducible exact ro_notN
  | with_reducible exact ro_eqL
  | with_reducible exact ro_neL
  | with_reducible exact ro_eqU
  | ((with_reducible apply ro_cat); (walk_at "side"))
  | with_reducible exact ro_inLi
  | with_reducible exact ro_inNi
  | with_reducible exact ro_inUi
  | ((with_reducible apply ro_inL) <;> (walk_at "side"))
  | ((with_reducible apply ro_inN) <;> (walk_at "side"))
  | ((with_reducible apply ro_inU) <;> (walk_at "side"))))
local macro_rules | `(tactic| walk_at "rc") => `(tactic| (first
  | with_reducible exact rc_int
  | with_reducible exact rc_intB
  | with_reducible exact rc_max2
  | ((with_reducible apply rc_lenC); (walk_at "side"))
  | with_reducible exact rc_lenI
  | with_reducible exact rc_lenT
  | with_reducible exact rc_lenIN
  | with_reducible exact rc_lenTN
  | with_reducible exact rc_lenL
  | with_reducible exact rc_lenN
  | with_reducible exact rc_lenU
  | with_reducible exact rc_listL
  | with_reducible exact rc_listU
  | with_reducible exact rc_tupL
  | with_reducible exact rc_tupN
  | ((with_reducible apply rc_isi_int); decide +kernel)
  | ((with_reducible apply rc_isi_str); decide +kernel)
  | ((with_reducible apply rc_isi_bl); decide +kernel)
  | ((with_reducible apply rc_isi_non); decide +kernel)
  | ((with_reducible apply rc_isi_u); decide +kernel)
  | ((with_reducible apply rc_isi_l); decide +kernel)))
local macro_rules | `(tactic| walk_at "er") => `(tactic| (first
  | ((with_reducible apply er_var); (exact rfl); assumption)
  | ((with_reducible apply er_v); exact rfl)
  | with_reducible exact er_c
  | ((with_reducible apply er_pick); (walk_at "er"); (walk_at "er"); (walk_at "er"))
  | ((with_reducible apply er_op); (walk_at "er"); (walk_at "er"); (walk_at "ro"))
  | ((with_reducible apply er_cb); (walk_at "era"); (walk_at "rc"))
  | ((with_reducible apply er_lst'); (walk_at "era"); (exact rfl); (walk_at "side"))
  | ((with_reducible apply er_tup'); (walk_at "era"); (exact rfl); (walk_at "side"))
  | ((with_reducible apply er_notV); (walk_at "er"))
  | ((with_reducible apply er_andV); (walk_at "er"); (intro _; (walk_at "er")))
  | ((with_reducible apply er_orV); (walk_at "er"); (intro _; (walk_at "er")))
  | ((with_reducible apply er_ite); (walk_at "et"); (intro _; (walk_at "er")); (intro _; (walk_at "er")))))
local macro_rules | `(tactic| walk_at "era") => `(tactic| (first
  | with_reducible exact era_nil
  | ((with_reducible apply era_cons); (walk_at "er"); (walk_at "era"))))
local macro_rules | `(tactic| walk_at "et") => `(tactic| (first
  | ((with_reducible apply et_an); (walk_at "et"); (intro _; (walk_at "et")))
  | ((with_reducible apply et_orr); (walk_at "et"); (intro _; (walk_at "et")))
  | ((with_reducible apply et_nt); (walk_at "et"))
  | ((with_reducible apply et1); (walk_at "er"))
  | ((with_reducible apply et2); (walk_at "er"))))

section
variable {P : Program} {w : World} {K : PySem.W.Frag} {mg : Str → Option Value} {base : Heap}
abbrev s__law_whole : Stmt := topS 41
theorem sc__law_whole : FnScope ["value"] ["value"] (defScope s__law_whole) := ⟨rfl, rfl, rfl, by decide +kernel, rfl, by decide +kernel, by decide +kernel⟩

abbrev sp__law_whole (K : PySem.W.Frag) : Sp := spR K (fun _ : Int => True) (fun i => [.i i]) fun _ => .b true
theorem has__law_whole (T : Txt K mg) (h : At K mg "_law_whole" s__law_whole ["value"]) : Has P w K mg base 1 "_law_whole" ["value"] (sp__law_whole K) := by
  refine h.hasR sc__law_whole (fun _ => rfl) fun f cdv A outer s H i vs Q E hr hp hv hk => ?_
  rcases hv with _ | ⟨rfl, _ | _⟩
  have sc := sc__law_whole
  refine ⟨_, (pss_one (ps_ret (pe_and (pe_callB (cr_isi_k (K := K)) (by rfl) T.b_isinstance (by decide +kernel) (pa_cons (pv 0) (pa_cons (pe_bltn (v := .ty "int") (by rfl) T.b_int (by decide +kernel) rfl) pa_nil))) (pe_one (pe_not (pe_callB (cr_isi_k (K := K)) (by rfl) T.b_isinstance (by decide +kernel) (pa_cons (pv 0) (pa_cons (pe_bltn (v := .ty "bool") (by rfl) T.b_bool (by decide +kernel) rfl) pa_nil)))))))), ?_⟩
  exact a_rete (K := K) (er_andV (a := true) (b := !false) (er_cb (era_cons (er_v rfl) (era_cons er_c era_nil)) (rc_isi_int (b := true) (by decide +kernel))) fun _ => er_notV (er_cb (era_cons (er_v rfl) (era_cons er_c era_nil)) (rc_isi_int (b := false) (by decide +kernel)))) rfl (Ex.refl H) hk
/-! ### a row pressed -/
abbrev s__law_pressed : Stmt := topS 62
theorem sc__law_pressed : FnScope ["stamps", "layer", "presses", "after", "name"] ["stamps", "layer", "presses"] (defScope s__law_pressed) := ⟨rfl, rfl, rfl, by decide +kernel, rfl, by decide +kernel, by decide +kernel⟩

def stampOf (sts : List (List Nat × List Nat)) (n : List Nat) : List Nat := match sts.find? (fun p => decide (p.1 = n)) with
  | some p => p.2
  | none => []
def pressAll (sts : List (List Nat × List Nat)) (layer : List Nat) (row : List (List Nat)) : List Nat := row.foldl (fun l n => pressM l (stampOf sts n)) layer
structure RowOk (sts : List (List Nat × List Nat)) (row : List (List Nat)) : Prop where
  few : row.length ≤ 1000
  ok : ∀ n ∈ row, ∃ p ∈ sts, p.1 = n
theorem stampOf_is {sts : List (List Nat × List Nat)} {n : List Nat} (h : ∃ p ∈ sts, p.1 = n) : ∃ p ∈ sts, stampOf sts n = p.2 ∧ findM sts n = .str (S p.2) := by
  obtain ⟨q, hq, hn⟩ := h
  cases hf : sts.find? (fun p => decide (p.1 = n)) with
  | none =>
    have := List.find?_eq_none.mp hf q hq
    simp [hn] at this
  | some p => exact ⟨p, List.mem_of_find?_eq_some hf, by unfold stampOf; rw [hf], by unfold findM; rw [hf]⟩
theorem pressAll_next {sts : List (List Nat × List Nat)} {layer : List Nat} {row : List (List Nat)} {i : Nat} {n : List Nat} (h : row[i]? = some n) : pressAll sts layer (row.take (i + 1)) = pressM (pressAll sts layer (row.take i)) (stampOf sts n) := by
  unfold pressAll
  rw [List.take_add_one, h, List.foldl_append]
  rfl
abbrev sp__law_pressed (K : PySem.W.Frag) : Sp := spR K (fun a : List (List Nat × List Nat) × List Nat × List (List Nat) => LotOk a.2.1.length a.1 ∧ RowOk a.1 a.2.2) (fun a => [.L (stD a.1), .s (S a.2.1), .U (a.2.2.map fun l => Dd.s (S l))]) fun a => .s (S (pressAll a.1 a.2.1 a.2.2))
theorem has__law_pressed (T : Txt K mg) (h : At K mg "_law_pressed" s__law_pressed ["stamps", "layer", "presses"]) (C__law_press : Has P w K mg base 1 "_law_press" ["one", "two"] (sp__law_press K)) (C__law_layer_of : Has P w K mg base 1 "_law_layer_of" ["stamps", "name"] (sp__law_layer_of K)) : Has P w K mg base 2 "_law_pressed" ["stamps", "layer", "presses"] (sp__law_pressed K) := by
  refine h.hasR sc__law_pressed (fun _ => rfl) fun f cdv A outer s H a vs Q E hr hp hv hk => ?_
  obtain ⟨sts, layer, row⟩ := a
  obtain ⟨hp, hw⟩ := hp
  replace hp : LotOk layer.length sts := hp
  replace hw : RowOk sts row := hw
  rcases hv with _ | ⟨hs, _ | ⟨rfl, _ | ⟨hr2, _ | _⟩⟩⟩
  rename_i x xr
  replace hs : Is K H (.L (stD sts)) x := hs
  replace hr2 : Is K H (.U (row.map fun l => Dd.s (S l))) xr := hr2
  have sc := sc__law_pressed
  have sz := hp.sz
  refine ⟨_, (pss_cons (ps_set (i := 3) sc.nd rfl (Or.inl rfl) (pv 1))
    (pss_cons (ps_for PassesOwn.never rfl (pi_tup_k (K := K) (pv 2)) (pg_name (i := 4) sc.nd rfl (Or.inl rfl)) (pss_one (ps_set (i := 3) sc.nd rfl (Or.inl rfl) (pe_callH C__law_press (hr.mono (by decide)) (pa_cons (pv 3) (pa_cons (pe_callH C__law_layer_of (hr.mono (by decide)) (pa_cons (pv 0) (pa_cons (pv 4) pa_nil))) pa_nil))))))
    (pss_one (ps_ret (pv 3))))), ?_⟩
  refine a_setv (K := K) (x := .str (S layer)) (er_v rfl) fun H1 e1 => ?_
  refine b_for (K := K) (G := H1) (ds := row.map fun l => Dd.s (S l)) (if_tup (ef_var rfl (hr2.mono e1))) (Ex.refl H1) (fun i σ' G' A' => ∃ y, σ' = [some x, some (.str (S layer)), some xr, some (.str (S (pressAll sts layer (row.take i)))), y] ∧ Ex H1 A' ∧ (pressAll sts layer (row.take i)).length = layer.length) (fun G1 A1 s1 => ⟨none, rfl, s1.a, rfl⟩) ?_ ?_
  · rintro G1 eg i d v σ' G' A' G2 A2 hd ⟨y, rfl, ea, hL⟩ e2 e3 s2 hv
    obtain ⟨n, hn, rfl⟩ : ∃ n, row[i]? = some n ∧ Dd.s (S n) = d := by
      rw [List.getElem?_map] at hd
      cases q : row[i]? with
      | none => rw [q] at hd; cases hd
      | some n => rw [q] at hd; exact ⟨n, rfl, Option.some.inj hd⟩
    obtain rfl : v = V.str (S n) := hv
    obtain ⟨p, hpm, hst, hfi⟩ := stampOf_is (hw.ok n (List.mem_of_getElem? hn))
    have hl := hp.st p hpm
    have E2 : Ex H A2 := (e1.trans ea).trans s2.a
    refine a_setv1 (K := K) (x := .str (S (pressM (pressAll sts layer (row.take i)) p.2))) (er_call (pressAll sts layer (row.take i), p.2) (era_cons (er_v rfl) (era_cons (Er.to (er_call (sts, n) (era_cons (er_var rfl (hs.mono E2)) (era_cons (er_v rfl) era_nil)) rfl trivial) (congrArg Dd.v hfi)) era_nil)) rfl ⟨by show (pressAll sts layer (row.take i)).length = p.2.length; omega, by show (pressAll sts layer (row.take i)).length ≤ 1000; omega⟩) fun A3 ea3 => ?_
    refine ⟨G2, ⟨some (.str (S n)), ?_, (ea.trans s2.a).trans ea3, ?_⟩, e2.trans s2.g, s2.v.trans ea3⟩
    · rw [pressAll_next hn, hst]
      rfl
    · rw [pressAll_next hn, hst, pressM_len (by omega), hL]
  · rintro σ' G' A' eg ev ⟨y, rfl, ea, hL⟩
    refine a_rete (K := K) (er_v rfl) ?_ (e1.trans ea) hk
    rw [List.length_map, List.take_length]
end
end Mi

set_option maxHeartbeats 4000000
namespace Mi
open PySem PySem.Spec PyProof.Rows L2 Evl
local macro_rules | `(tactic| walk_at "side") => `(tactic| (first | assumption | omega | exact rfl | decide | (simp only [List.length_cons, List.length_nil, List.length_map, List.length_append, List.length_replicate] <;> omega)))
local macro_rules | `(tactic| walk_at "ro") => `(tactic| (first
  | with_reducible exact ro_I0
  | with_reducible exact ro_1018
  | with_reducible exact ro_neC
  | with_reducible exact ro_eqC
  | with_reducible exact ro_neI
  | with_reducible exact ro_eqI
  | with_reducible exact ro_neB
  | with_reducible exact ro_eqB
  | ((with_reducible apply ro_mod); (walk_at "side"))
  | ((with_reducible apply ro_div) <;> (walk_at "side"))
  | ((with_reducible apply ro_divW) <;> (walk_at "side"))
  | with_reducible exact ro_1012
  | with_reducible exact ro_1015
  | ((with_reducible apply ro_mulL) <;> (walk_at "side"))
  | ((with_reducible apply ro_mulR) <;> (walk_at "side"))
  | ((with_reducible apply ro_addC); (walk_at "side"))
  | ((with_reducible apply ro_ixC) <;> (walk_at "side"))
  | ((with_reducible apply ro_ixI) <;> (walk_at "side"))
  | ((with_reducible apply ro_ixIN) <;> (walk_at "side"))
  | ((with_reducible apply ro_ixT2) <;> (walk_at "side"))
  | ((with_reducible apply ro_ixG) <;> (walk_at "side"))
  | ((with_reducible apply ro_eq); exact rfl)
  | ((with_reducible apply ro_ne); exact rfl)
  | with_reducible exact ro_isN
  | with_reducible exact ro_notN
  | with_reducible exact ro_eqL
  | with_reducible exact ro_neL
  | with_reducible exact ro_eqU
  | ((with_reducible apply ro_cat); (walk_at "side"))
  | with_reducible exact ro_inLi
  | with_reducible exact ro_inNi
  | with_reducible exact ro_inUi
  | ((with_reducible apply ro_inL) <;> (walk_at "side"))
  | ((with_reducible apply ro_inN) <;> (walk_at "side"))
  | ((with_reducible apply ro_inU) <;> (walk_at "side"))))
local macro_rules | `(tactic| walk_at "rc") => `(tactic| (first
  | with_reducible exact rc_int
  | with_reducible exact rc_intB
  | with_reducible exact rc_max2
  | ((with_reducible apply rc_lenC); (walk_at "side"))
  | with_reducible exact rc_lenI
  | with_reducible exact rc_lenT
  | with_reducible exact rc_lenIN
  | with_reducible exact rc_lenTN
  | with_reducible exact rc_lenL
  | with_reducible exact rc_lenN
  | with_reducible exact rc_lenU
  | with_reducible exact rc_listL
  | with_reducible exact rc_listU
  | with_reducible exact rc_tupL
  | with_reducible exact rc_tupN
  | ((with_reducible apply rc_isi_int); decide +kernel)
  | ((with_reducible apply rc_isi_str); decide +kernel)
  | ((with_reducible apply rc_isi_bl); decide +kernel)
  | ((with_reducible apply rc_isi_non); decide +kernel)
  | ((with_reducible apply rc_isi_u); decide +kernel)
  | ((with_reducible apply rc_isi_l); decide +kernel)))
local macro_rules | `(tactic| walk_at "er") => `(tactic| (first
  | ((with_reducible apply er_var); (exact rfl); assumption)
  | ((with_reducible apply er_v); exact rfl)
  | with_reducible exact er_c
  | ((with_reducible apply er_pick); (walk_at "er"); (walk_at "er"); (walk_at "er"))
  | ((with_reducible apply er_op); (walk_at "er"); (walk_at "er"); (walk_at "ro"))
  | ((with_reducible apply er_cb); (walk_at "era"); (walk_at "rc"))
  | ((with_reducible apply er_lst'); (walk_at "era"); (exact rfl); (walk_at "side"))
  | ((with_reducible apply er_tup'); (walk_at "era"); (exact rfl); (walk_at "side"))
  | ((with_reducible apply er_notV); (walk_at "er"))
  | ((with_reducible apply er_andV); (walk_at "er"); (intro _; (walk_at "er")))
  | ((with_reducible apply er_orV); (walk_at "er"); (intro _; (walk_at "er")))
  | ((with_reducible apply er_ite); (walk_at "et"); (intro _; (walk_at "er")); (intro _; (walk_at "er")))))
local macro_rules | `(tactic| walk_at "era") => `(tactic| (first
  | with_reducible exact era_nil
  | ((with_reducible apply era_cons); (walk_at "er"); (walk_at "era"))))
local macro_rules | `(tactic| walk_at "et") => `(tactic| (first
  | ((with_reducible apply et_an); (walk_at "et"); (intro _; (walk_at "et")))
  | ((with_reducible apply et_orr); (walk_at "et"); (intro _; (walk_at "et")))
  | ((with_reducible apply et_nt); (walk_at "et"))
  | ((with_reducible apply et1); (walk_at "er"))
  | ((with_reducible apply et2); (walk_at "er"))))

section
variable {P : Program} {w : World} {K : PySem.W.Frag} {mg : Str → Option Value} {base : Heap}
/-! ### methods of a stock -/
abbrev s_Stock___contains__ : Stmt := inClass (topS 34) 3
theorem sc_Stock___contains__ : FnScope ["self", "name"] ["self", "name"] (defScope s_Stock___contains__) := ⟨rfl, rfl, rfl, by decide +kernel, rfl, by decide +kernel, by decide +kernel⟩

abbrev sp_contains (K : PySem.W.Frag) (C : Addr) : Sp := spR K (fun _ : Nat × List (List Nat × List Nat) × List Nat => True) (fun a => [stockC K C (a.1 : Int) a.2.1, .s (S a.2.2)]) fun a => .b (a.2.1.find? fun p => decide (p.1 = a.2.2)).isSome
theorem ok_contains {f C : Addr} {fd : FuncData} (F : Fun K "__contains__" "Stock.__contains__" s_Stock___contains__ f fd) (T : Txt K mg) (TS : StTxt K mg C) : FnOk P w K mg base CX0 1 f fd ["self", "name"] (sp_contains K C) := by
  have sc := sc_Stock___contains__
  refine F.ok sc (fun vs H Q E h => ?_) (fun cdv A outer s H vs Q E hr h => ?_)
  · obtain ⟨a, _, hv, _⟩ := h
    rcases hv with _ | ⟨_, _ | ⟨_, _ | _⟩⟩
    rfl
  obtain ⟨⟨n, sts, name⟩, hp, hv, hk⟩ := h
  rcases hv with _ | ⟨hx, _ | ⟨rfl, _ | _⟩⟩
  rename_i x
  replace hx : Is K H (stockC K C (n : Int) sts) x := hx
  refine ⟨_, (pss_one (ps_ret (pe_cmpR op_inK (pv 1) (pe_fld (pv 0) rfl) rfl))), ?_⟩
  refine a_rete (K := K) (er_op (d1 := .s (S name)) (er_v rfl) (er_stampOf TS.cl TS.nO (er_var rfl hx)) ro_inK) ?_ (Ex.refl H) hk
  rw [stK_get, Option.isSome_map]
theorem ro_notInO {C : Addr} {n : Nat} {sts : List (List Nat × List Nat)} {name : List Nat} : Ro K (rInO C (sp_contains K C) true) (.s (S name)) (stockC K C (n : Int) sts) (.b (!(sts.find? fun p => decide (p.1 = name)).isSome)) := by
  rintro v1 v2 H1 h1 h2 Q q
  obtain rfl : v1 = V.str (S name) := h1
  have h2' : Is K H1 (stockC K C (n : Int) sts) v2 := h2
  obtain ⟨x, dx, ps, dd, rfl, hx, h3, h4⟩ := h2
  exact ⟨x, dx, _, rfl, hx, (n, sts, name), trivial, .cons h2' (.cons rfl .nil), fun v H' e z => ⟨_, z, q _ H' e rfl⟩⟩
abbrev s_Stock_stamp : Stmt := inClass (topS 34) 7
theorem sc_Stock_stamp : FnScope ["self", "name"] ["self", "name"] (defScope s_Stock_stamp) := ⟨rfl, rfl, rfl, by decide +kernel, rfl, by decide +kernel, by decide +kernel⟩

abbrev sp_stamp (K : PySem.W.Frag) (C : Addr) : Sp := spR K (fun a : Nat × List (List Nat × List Nat) × List Nat => ∃ p ∈ a.2.1, p.1 = a.2.2) (fun a => [stockC K C (a.1 : Int) a.2.1, .s (S a.2.2)]) fun a => .s (S (stampOf a.2.1 a.2.2))
theorem ok_stamp {f fC C : Addr} {fd fdC : FuncData} (F : Fun K "stamp" "Stock.stamp" s_Stock_stamp f fd) (T : Txt K mg) (TS : StTxt K mg C) (hiC : PySem.W.findIn K (.ref C) "__contains__" = some (some (.ref fC))) (hfC : PySem.W.isFn K (.ref fC) = true) (FC : FnOk P w K mg base CX0 1 fC fdC ["self", "name"] (sp_contains K C)) (bC : Binds K fdC ["self", "name"] []) : FnOk P w K mg base CX0 2 f fd ["self", "name"] (sp_stamp K C) := by
  have sc := sc_Stock_stamp
  refine F.ok sc (fun vs H Q E h => ?_) (fun cdv A outer s H vs Q E hr h => ?_)
  · obtain ⟨a, _, hv, _⟩ := h
    rcases hv with _ | ⟨_, _ | ⟨_, _ | _⟩⟩
    rfl
  obtain ⟨⟨n, sts, name⟩, hp, hv, hk⟩ := h
  replace hp : ∃ p ∈ sts, p.1 = name := hp
  rcases hv with _ | ⟨hx, _ | ⟨rfl, _ | _⟩⟩
  rename_i x
  replace hx : Is K H (stockC K C (n : Int) sts) x := hx
  obtain ⟨p, hpm, hst, _⟩ := stampOf_is hp
  have hfs : (sts.find? fun p => decide (p.1 = name)).isSome = true := by
    obtain ⟨q, hq, hn⟩ := hp
    rw [List.find?_isSome]
    exact ⟨q, hq, decide_eq_true hn⟩
  have hval : valV (stK sts) (Sum.inr (S name)) = some (.str (S (stampOf sts name))) := by
    rw [stK_get]
    unfold stampOf
    cases hf : sts.find? (fun p => decide (p.1 = name)) with
    | none => rw [hf] at hfs; cases hfs
    | some p => rfl
  refine ⟨_, (pss_cons (ps_if (pt_cmpR (op_notInO hiC hfC FC bC (hr.mono (by decide))) (pv 1) (pv 0) rfl) (pss_one ps_never) pss_nil)
    (pss_one (ps_ret (pe_ix ix_dK (pe_fld (pv 0) rfl) (pv 1) (fun _ _ => rfl))))), ?_⟩
  refine a_when (K := K) (b := !(sts.find? fun p => decide (p.1 = name)).isSome) (et1 (er_op (d1 := .s (S name)) (er_v rfl) (er_var rfl hx) ro_notInO)) (fun hb => by rw [hfs] at hb; cases hb) fun _ H1 e1 => ?_
  exact a_rete (K := K) (er_op (d2 := .s (S name)) (er_stampOf TS.cl TS.nO (er_var rfl (hx.mono e1))) (er_v rfl) (ro_ixK hval)) rfl e1 hk
theorem ne_st1 : ¬ (("stamp" : Str) = "size") := by decide +kernel
theorem ne_st2 : ¬ (("stamp" : Str) = "stamps") := by decide +kernel
theorem ne_st3 : ¬ (("stamp" : Str) = "_stamp_of") := by decide +kernel
/-- stock.stamp(name) -/
theorem er_stampCall {σ : L2.St} {H : Hp} {te tn : TE} {C : Addr} {n : Nat} {sts : List (List Nat × List Nat)} {name : List Nat} (h : Er K te σ H (stockC K C (n : Int) sts)) (hn : Er K tn σ H (.s (S name))) (hp : ∃ p ∈ sts, p.1 = name) : Er K (tMeth C "stamp" (sp_stamp K C) [] E0 te (tCons tn tNil)) σ H (.s (S (stampOf sts name))) := fun H1 e Q q =>
  h H1 e _ fun v H2 e2 hz => by
    have hz' : Is K H2 (stockC K C (n : Int) sts) v := hz
    obtain ⟨x, dx, ps, dd, rfl, hx, h3, h4⟩ := hz
    refine ⟨x, dx, _, rfl, hx, ?_, ?_⟩
    · unfold stFlds
      rw [lookup_putF, if_neg ne_st3, lookup_putF, if_neg ne_st2, lookup_putF, if_neg ne_st1]
      rfl
    · refine hn H2 (e.trans e2) _ fun w H3 e3 zw => ⟨(n, sts, name), hp, .cons (hz'.mono e3) (.cons zw .nil), fun v H' e4 z => q v H' ((e2.trans e3).trans e4) z⟩
end
end Mi

set_option maxHeartbeats 4000000
namespace Mi
open PySem PySem.Spec PyProof.Rows L2 Evl
local macro_rules | `(tactic| walk_at "side") => `(tactic| (first | assumption | omega | exact rfl | decide | (simp only [List.length_cons, List.length_nil, List.length_map, List.length_append, List.length_replicate] <;> omega)))
local macro_rules | `(tactic| walk_at "ro") => `(tactic| (first
  | with_reducible exact ro_I0
  | with_reducible exact ro_1018
  | with_reducible exact ro_neC
  | with_reducible exact ro_eqC
  | with_reducible exact ro_neI
  | with_reducible exact ro_eqI
  | with_reducible exact ro_neB
  | with_reducible exact ro_eqB
  | ((with_reducible apply ro_mod); (walk_at "side"))
  | ((with_reducible apply ro_div) <;> (walk_at "side"))
  | ((with_reducible apply ro_divW) <;> (walk_at "side"))
  | with_reducible exact ro_1012
  | with_reducible exact ro_1015
  | ((with_reducible apply ro_mulL) <;> (walk_at "side"))
  | ((with_reducible apply ro_mulR) <;> (walk_at "side"))
  | ((with_reducible apply ro_addC); (walk_at "side"))
  | ((with_reducible apply ro_ixC) <;> (walk_at "side"))
  | ((with_reducible apply ro_ixI) <;> (walk_at "side"))
  | ((with_reducible apply ro_ixIN) <;> (walk_at "side"))
  | ((with_reducible apply ro_ixT2) <;> (walk_at "side"))
  | ((with_reducible apply ro_ixG) <;> (walk_at "side"))
  | ((with_reducible apply ro_eq); exact rfl)
  | ((with_reducible apply ro_ne); exact rfl)
  | with_reducible exact ro_isN
  | with_reducible exact ro_notN
  | with_reducible exact ro_eqL
  | with_reducible exact ro_neL
  | with_reducible exact ro_eqU
  | ((with_reducible apply ro_cat); (walk_at "side"))
  | with_reducible exact ro_inLi
  | with_reducible exact ro_inNi
  | with_reducible exact ro_inUi
  | ((with_reducible apply ro_inL) <;> (walk_at "side"))
  | ((with_reducible apply ro_inN) <;> (walk_at "side"))
  | ((with_reducible apply ro_inU) <;> (walk_at "side"))))
local macro_rules | `(tactic| walk_at "rc") => `(tactic| (first
  | with_reducible exact rc_int
  | with_reducible exact rc_intB
  | with_reducible exact rc_max2
  | ((with_reducible apply rc_lenC); (walk_at "side"))
  | with_reducible exact rc_lenI
  | with_reducible exact rc_lenT
  | with_reducible exact rc_lenIN
  | with_reducible exact rc_lenTN
  | with_reducible exact rc_lenL
  | with_reducible exact rc_lenN
  | with_reducible exact rc_lenU
  | with_reducible exact rc_listL
  | with_reducible exact rc_listU
  | with_reducible exact rc_tupL
  | with_reducible exact rc_tupN
  | ((with_reducible apply rc_isi_int); decide +kernel)
  | ((with_reducible apply rc_isi_str); decide +kernel)
  | ((with_reducible apply rc_isi_bl); decide +kernel)
  | ((with_reducible apply rc_isi_non); decide +kernel)
  | ((with_reducible apply rc_isi_u); decide +kernel)
  | ((with_reducible apply rc_isi_l); decide +kernel)))
local macro_rules | `(tactic| walk_at "er") => `(tactic| (first
  | ((with_reducible apply er_var); (exact rfl); assumption)
  | ((with_reducible apply er_v); exact rfl)
  | with_reducible exact er_c
  | ((with_reducible apply er_pick); (walk_at "er"); (walk_at "er"); (walk_at "er"))
  | ((with_reducible apply er_op); (walk_at "er"); (walk_at "er"); (walk_at "ro"))
  | ((with_reducible apply er_cb); (walk_at "era"); (walk_at "rc"))
  | ((with_reducible apply er_lst'); (walk_at "era"); (exact rfl); (walk_at "side"))
  | ((with_reducible apply er_tup'); (walk_at "era"); (exact rfl); (walk_at "side"))
  | ((with_reducible apply er_notV); (walk_at "er"))
  | ((with_reducible apply er_andV); (walk_at "er"); (intro _; (walk_at "er")))
  | ((with_reducible apply er_orV); (walk_at "er"); (intro _; (walk_at "er")))
  | ((with_reducible apply er_ite); (walk_at "et"); (intro _; (walk_at "er")); (intro _; (walk_at "er")))))
local macro_rules | `(tactic| walk_at "era") => `(tactic| (first
  | with_reducible exact era_nil
  | ((with_reducible apply era_cons); (walk_at "er"); (walk_at "era"))))
local macro_rules | `(tactic| walk_at "et") => `(tactic| (first
  | ((with_reducible apply et_an); (walk_at "et"); (intro _; (walk_at "et")))
  | ((with_reducible apply et_orr); (walk_at "et"); (intro _; (walk_at "et")))
  | ((with_reducible apply et_nt); (walk_at "et"))
  | ((with_reducible apply et1); (walk_at "er"))
  | ((with_reducible apply et2); (walk_at "er"))))

section
variable {P : Program} {w : World} {K : PySem.W.Frag} {mg : Str → Option Value} {base : Heap}
/-! ### walking while something can be peeled off -/
def marksN (l : List Nat) : Nat := (l.filter fun c => !decide (c = 45)).length
theorem free_marks : ∀ {a b : List Nat}, a.length = b.length → marksN (freeM a b) ≤ marksN a ∧ (freeM a b ≠ a → marksN (freeM a b) < marksN a)
  | [], [], _ => ⟨Nat.le_refl _, fun h => absurd rfl h⟩
  | x :: a, y :: b, h => by
    obtain ⟨i1, i2⟩ := free_marks (a := a) (b := b) (by simpa using h)
    have e : freeM (x :: a) (y :: b) = (if y = 45 then x else 45) :: freeM a b := rfl
    rw [e]
    by_cases hy : y = 45
    · rw [if_pos hy]
      by_cases hx : x = 45
      · simp only [marksN, List.filter_cons, hx, decide_true, Bool.not_true, Bool.false_eq_true, if_false] at *
        exact ⟨i1, fun hne => i2 fun z => hne (by rw [z])⟩
      · simp only [marksN, List.filter_cons, hx, decide_false, Bool.not_false, if_true, List.length_cons] at *
        exact ⟨by omega, fun hne => by have := i2 fun z => hne (by rw [z]); omega⟩
    · rw [if_neg hy]
      by_cases hx : x = 45
      · simp only [marksN, List.filter_cons, hx, decide_true, Bool.not_true, Bool.false_eq_true, if_false] at *
        exact ⟨i1, fun hne => i2 fun z => hne (by rw [z])⟩
      · simp only [marksN, List.filter_cons, hx, decide_false, decide_true, Bool.not_true, Bool.false_eq_true, if_false, Bool.not_false, if_true, List.length_cons] at *
        exact ⟨by omega, fun _ => by omega⟩
  | [], _ :: _, h => by simp at h
  | _ :: _, [], h => by simp at h
def walkP (sts : List (List Nat × List Nat)) : Nat → List Nat → List (List Nat) × List Nat
  | 0, left => ([], left)
  | n + 1, left => match sts.find? (peelC left) with
    | none => ([], left)
    | some p => (p.1 :: (walkP sts n (freeM left p.2)).1, (walkP sts n (freeM left p.2)).2)
theorem walkP_none {sts : List (List Nat × List Nat)} {n : Nat} {left : List Nat} (h : sts.find? (peelC left) = none) : walkP sts n left = ([], left) := by
  cases n with
  | zero => rfl
  | succ n => simp [walkP, h]
theorem walkP_some {sts : List (List Nat × List Nat)} {n : Nat} {left : List Nat} {p : List Nat × List Nat} (h : sts.find? (peelC left) = some p) : walkP sts (n + 1) left = (p.1 :: (walkP sts n (freeM left p.2)).1, (walkP sts n (freeM left p.2)).2) := by
  simp [walkP, h]
/-- more turns than there are marks change nothing -/
theorem walkP_enough {sts : List (List Nat × List Nat)} {size : Nat} (hl : ∀ p ∈ sts, p.2.length = size) : ∀ {n m : Nat} {left : List Nat}, left.length = size → marksN left ≤ n → marksN left ≤ m → walkP sts n left = walkP sts m left
  | 0, m, left, hs, h1, h2 => by
    cases hf : sts.find? (peelC left) with
    | none => rw [walkP_none hf, walkP_none hf]
    | some p =>
      have hp := List.find?_some hf
      have hm := hl p (List.mem_of_find?_eq_some hf)
      simp only [peelC, Bool.and_eq_true, Bool.not_eq_true', decide_eq_false_iff_not] at hp
      have := (free_marks (a := left) (b := p.2) (by omega)).2 hp.2
      omega
  | n + 1, m, left, hs, h1, h2 => by
    cases hf : sts.find? (peelC left) with
    | none => rw [walkP_none hf, walkP_none hf]
    | some p =>
      have hp := List.find?_some hf
      have hm := hl p (List.mem_of_find?_eq_some hf)
      simp only [peelC, Bool.and_eq_true, Bool.not_eq_true', decide_eq_false_iff_not] at hp
      have hlt := (free_marks (a := left) (b := p.2) (by omega)).2 hp.2
      cases m with
      | zero => omega
      | succ m =>
        have hfl : (freeM left p.2).length = size := by rw [freeM_len2 (by omega), hs]
        rw [walkP_some hf, walkP_some hf, walkP_enough hl (n := n) (m := m) hfl (by omega) (by omega)]
theorem stampOf_first {sts : List (List Nat × List Nat)} {p : List Nat × List Nat} (hd : (sts.map (·.1)).Nodup) (hm : p ∈ sts) : stampOf sts p.1 = p.2 := by
  unfold stampOf
  cases hf : sts.find? (fun q => decide (q.1 = p.1)) with
  | none =>
    have := List.find?_eq_none.mp hf p hm
    simp at this
  | some q =>
    have hq := List.mem_of_find?_eq_some hf
    have hk : q.1 = p.1 := by
      have h0 := List.find?_some hf
      simpa using h0
    obtain ⟨i, hi, rfl⟩ := List.getElem_of_mem hq
    obtain ⟨j, hj, rfl⟩ := List.getElem_of_mem hm
    have hp := List.pairwise_iff_getElem.mp hd
    rcases Nat.lt_trichotomy i j with h | h | h
    · have := hp i j (by rw [List.length_map]; exact hi) (by rw [List.length_map]; exact hj) h
      rw [List.getElem_map, List.getElem_map] at this
      exact absurd hk this
    · subst h
      rfl
    · have := hp j i (by rw [List.length_map]; exact hj) (by rw [List.length_map]; exact hi) h
      rw [List.getElem_map, List.getElem_map] at this
      exact absurd hk.symm this
/-! ### Peeling(..) -/
abbrev s_Peeling___init__ : Stmt := inClass (topS 10) 0
theorem sc_Peeling___init__ : FnScope ["self", "seen", "order", "left"] ["self", "seen", "order", "left"] (defScope s_Peeling___init__) := ⟨rfl, rfl, rfl, by decide +kernel, rfl, by decide +kernel, by decide +kernel⟩

structure PeTxt (K : PySem.W.Frag) (mg : Str → Option Value) (C : Addr) : Prop where
  cl : Cls K C
  nS : NoAttr K C "seen"
  nO : NoAttr K C "order"
  nL : NoAttr K C "left"
  mgC : mg "Peeling" = some (.ref C)
def peFlds (seen : List Nat) (po : Addr) (left : List Nat) : List (Str × V) := putF "left" (.str (S left)) (putF "order" (.ref po) (putF "seen" (.str (S seen)) []))
def peelO (K : PySem.W.Frag) (C : Addr) (seen : List Nat) (names : List (List Nat)) (left : List Nat) : Dd := .P ⟨fun H y => ∃ x dx po, y = .ref x ∧ H x = some (.ins C dx (peFlds seen po left)) ∧ Is K H (.U (names.map fun l => Dd.s (S l))) (.ref po), by
  rintro H H' y e ⟨x, dx, po, rfl, h1, h2⟩
  exact ⟨x, dx, po, rfl, e x _ h1, h2.mono e⟩⟩
def spInitP (K : PySem.W.Frag) (C : Addr) : Sp := fun vs A Q _ => ∃ (x : Addr) (seen left : List Nat) (names : List (List Nat)) (w : V), vs = [.ref x, .str (S seen), w, .str (S left)] ∧ ∃ dx G A0, Ex G A0 ∧ Ex A0 A ∧ A0 x = none ∧ A x = some (.ins C dx []) ∧ Is K G (.U (names.map fun l => Dd.s (S l))) w ∧ ∀ G' A', Step G A0 G' A' → Is K G' (peelO K C seen names left) (.ref x) → Q .non A'
theorem ne_p1 : ¬ (("seen" : Str) = "order") := by decide +kernel
theorem ok_initP {f C : Addr} {fd : FuncData} (F : Fun K "__init__" "Peeling.__init__" s_Peeling___init__ f fd) (T : Txt K mg) (TP : PeTxt K mg C) : FnOk P w K mg base CX0 1 f fd ["self", "seen", "order", "left"] (spInitP K C) := by
  have sc := sc_Peeling___init__
  refine F.ok sc (fun vs H Q E h => ?_) (fun cdv Ar outer s A vs Q E hr h => ?_)
  · obtain ⟨x, seen, left, names, w, rfl, _⟩ := h
    rfl
  obtain ⟨x, seen, left, names, w, rfl, dx, G, A0, hGA, hA, hx0, hx, hw, hk⟩ := h
  refine ⟨_, (pss_cons (ps_fld (pv 0) (pv 1) rfl)
    (pss_cons (ps_fld (pv 0) (pv 2) rfl)
    (pss_one (ps_fld (pv 0) (pv 3) rfl)))), ?_⟩
  have s0 : Step G A0 G A := .on hGA hA
  have gx : G x = none := ex_out hGA hx0
  obtain ⟨ps, vs2, rfl, hps, hE⟩ := hw
  have hw : Is K G (.U (names.map fun l => Dd.s (S l))) (.ref ps) := ⟨ps, vs2, rfl, hps, hE⟩
  refine ⟨_, rfl, _, rfl, x, C, dx, [], rfl, hx, TP.cl, TP.nS, by decide, ?_⟩
  refine ⟨_, rfl, _, rfl, x, C, dx, _, rfl, upd_same, TP.cl, TP.nO, by show 1 < 1000; decide, ?_⟩
  rw [upd_upd]
  refine ⟨_, rfl, _, rfl, x, C, dx, _, rfl, upd_same, TP.cl, TP.nL, ?_, ?_⟩
  · have : (putF "order" (V.ref ps) (putF "seen" (.str (S seen)) [])).length = 2 := by
      show (if ("seen" : Str) = "order" then _ else _ : List (Str × V)).length = 2
      rw [if_neg ne_p1]
      rfl
    rw [this]
    decide
  rw [upd_upd]
  have S5 := s0.grow (o := .ins C dx (peFlds seen ps left)) hx0 gx
  exact hk _ _ (S5.seal hx0 gx upd_same) ⟨x, dx, ps, rfl, upd_same, hw.mono (Ex.new gx)⟩
theorem ef_makeP {σ : L2.St} {G : Hp} {tr : TA} {C : Addr} {seen left : List Nat} {names : List (List Nat)} (h : Efa K tr σ G [.s (S seen), .U (names.map fun l => Dd.s (S l)), .s (S left)]) : Ef K (tMake C (spInitP K C) [] E0 tr) σ G (peelO K C seen names left) := fun G1 A1 e1 e2 Q q =>
  h G1 A1 e1 e2 _ fun vs G2 A2 s2 z => by
    rcases z with _ | ⟨z1, _ | ⟨z2, _ | ⟨z3, _ | _⟩⟩⟩
    rename_i v1 v2 v3
    obtain rfl : v1 = V.str (S seen) := z1
    obtain rfl : v3 = V.str (S left) := z3
    intro x dx hx hdx ne
    refine ⟨x, seen, left, names, v2, rfl, dx, G2, A2, s2.v, ?_, hx, upd_same, z2, fun G' A' s hv => ⟨rfl, q _ G' A' (s2.trans s) hv⟩⟩
    exact (Ex.new hdx).trans (Ex.new (by rw [upd_ne (Ne.symm ne)]; exact hx))
end
end Mi

set_option maxHeartbeats 4000000
namespace Mi
open PySem PySem.Spec PyProof.Rows L2 Evl
local macro_rules | `(tactic| walk_at "side") => `(tactic| (first | assumption | omega | exact rfl | decide | (simp only [List.length_cons, List.length_nil, List.length_map, List.length_append, List.length_replicate] <;> omega)))
local macro_rules | `(tactic| walk_at "ro") => `(tactic| (first
  | with_reducible exact ro_I0
  | with_reducible exact ro_1018
  | with_reducible exact ro_neC
  | with_reducible exact ro_eqC
  | with_reducible exact ro_neI
  | with_reducible exact ro_eqI
  | with_reducible exact ro_neB
  | with_reducible exact ro_eqB
  | ((with_reducible apply ro_mod); (walk_at "side"))
  | ((with_reducible apply ro_div) <;> (walk_at "side"))
  | ((with_reducible apply ro_divW) <;> (walk_at "side"))
  | with_reducible exact ro_1012
  | with_reducible exact ro_1015
  | ((with_reducible apply ro_mulL) <;> (walk_at "side"))
  | ((with_reducible apply ro_mulR) <;> (walk_at "side"))
  | ((with_reducible apply ro_addC); (walk_at "side"))
  | ((with_reducible apply ro_ixC) <;> (walk_at "side"))
  | ((with_reducible apply ro_ixI) <;> (walk_at "side"))
  | ((with_reducible apply ro_ixIN) <;> (walk_at "side"))
  | ((with_reducible apply ro_ixT2) <;> (walk_at "side"))
  | ((with_reducible apply ro_ixG) <;> (walk_at "side"))
  | ((with_reducible apply ro_eq); exact rfl)
  | ((with_reducible apply ro_ne); exact rfl)
  | with_reducible exact ro_isN
  | with_reducible exact ro_notN
  | with_reducible exact ro_eqL
  | with_reducible exact ro_neL
  | with_reducible exact ro_eqU
  | ((with_reducible apply ro_cat); (walk_at "side"))
  | with_reducible exact ro_inLi
  | with_reducible exact ro_inNi
  | with_reducible exact ro_inUi
  | ((with_reducible apply ro_inL) <;> (walk_at "side"))
  | ((with_reducible apply ro_inN) <;> (walk_at "side"))
  | ((with_reducible apply ro_inU) <;> (walk_at "side"))))
local macro_rules | `(tactic| walk_at "rc") => `(tactic| (first
  | with_reducible exact rc_int
  | with_reducible exact rc_intB
  | with_reducible exact rc_max2
  | ((with_reducible apply rc_lenC); (walk_at "side"))
  | with_reducible exact rc_lenI
  | with_reducible exact rc_lenT
  | with_reducible exact rc_lenIN
  | with_reducible exact rc_lenTN
  | with_reducible exact rc_lenL
  | with_reducible exact rc_lenN
  | with_reducible exact rc_lenU
  | with_reducible exact rc_listL
  | with_reducible exact rc_listU
  | with_reducible exact rc_tupL
  | with_reducible exact rc_tupN
  | ((with_reducible apply rc_isi_int); decide +kernel)
  | ((with_reducible apply rc_isi_str); decide +kernel)
  | ((with_reducible apply rc_isi_bl); decide +kernel)
  | ((with_reducible apply rc_isi_non); decide +kernel)
  | ((with_reducible apply rc_isi_u); decide +kernel)
  | ((with_reducible apply rc_isi_l); decide +kernel)))
local macro_rules | `(tactic| walk_at "er") => `(tactic| (first
  | ((with_reducible apply er_var); (exact rfl); assumption)
  | ((with_reducible apply er_v); exact rfl)
  | with_reducible exact er_c
  | ((with_reducible apply er_pick); (walk_at "er"); (walk_at "er"); (walk_at "er"))
  | ((with_reducible apply er_op); (walk_at "er"); (walk_at "er"); (walk_at "ro"))
  | ((with_reducible apply er_cb); (walk_at "era"); (walk_at "rc"))
  | ((with_reducible apply er_lst'); (walk_at "era"); (exact rfl); (walk_at "side"))
  | ((with_reducible apply er_tup'); (walk_at "era"); (exact rfl); (walk_at "side"))
  | ((with_reducible apply er_notV); (walk_at "er"))
  | ((with_reducible apply er_andV); (walk_at "er"); (intro _; (walk_at "er")))
  | ((with_reducible apply er_orV); (walk_at "er"); (intro _; (walk_at "er")))
  | ((with_reducible apply er_ite); (walk_at "et"); (intro _; (walk_at "er")); (intro _; (walk_at "er")))))
local macro_rules | `(tactic| walk_at "era") => `(tactic| (first
  | with_reducible exact era_nil
  | ((with_reducible apply era_cons); (walk_at "er"); (walk_at "era"))))
local macro_rules | `(tactic| walk_at "et") => `(tactic| (first
  | ((with_reducible apply et_an); (walk_at "et"); (intro _; (walk_at "et")))
  | ((with_reducible apply et_orr); (walk_at "et"); (intro _; (walk_at "et")))
  | ((with_reducible apply et_nt); (walk_at "et"))
  | ((with_reducible apply et1); (walk_at "er"))
  | ((with_reducible apply et2); (walk_at "er"))))

section
variable {P : Program} {w : World} {K : PySem.W.Frag} {mg : Str → Option Value} {base : Heap}
abbrev s_peeling : Stmt := topS 13
theorem sc_peeling : FnScope ["stock", "seen", "left", "order", "name"] ["stock", "seen"] (defScope s_peeling) := ⟨rfl, rfl, rfl, by decide +kernel, rfl, by decide +kernel, by decide +kernel⟩

structure StockOk (size : Nat) (sts : List (List Nat × List Nat)) : Prop where
  lot : LotOk size sts
  di : (sts.map (·.1)).Nodup
abbrev sp_peeling (K : PySem.W.Frag) (C CP : Addr) : Sp := spF K (fun a : Nat × List (List Nat × List Nat) × List Nat => StockOk a.2.2.length a.2.1) (fun a => [stockC K C (a.1 : Int) a.2.1, .s (S a.2.2)]) fun a => peelO K CP a.2.2 (walkP a.2.1 (marksN a.2.2) a.2.2).1 (walkP a.2.1 (marksN a.2.2) a.2.2).2
theorem marksN_le (l : List Nat) : marksN l ≤ l.length := List.length_filter_le _ _
theorem has_peeling {C CP f_st fP : Addr} {fdS fdP : FuncData} (T : Txt K mg) (TS : StTxt K mg C) (TP : PeTxt K mg CP) (h : At K mg "peeling" s_peeling ["stock", "seen"]) (C_first_to_peel : Has P w K mg base 2 "first_to_peel" ["stock", "left"] (sp_first K C)) (C_peeled : Has P w K mg base 1 "peeled" ["left", "stamp"] (sp_peeled K)) (M_stamp : Meth K C "stamp" f_st) (F_stamp : FnOk P w K mg base CX0 2 f_st fdS ["self", "name"] (sp_stamp K C)) (b_stamp : Binds K fdS ["self", "name"] []) (M_initP : Mk K CP fP) (F_initP : FnOk P w K mg base CX0 1 fP fdP ["self", "seen", "order", "left"] (spInitP K CP)) (b_initP : Binds K fdP ["self", "seen", "order", "left"] []) : Has P w K mg base 3 "peeling" ["stock", "seen"] (sp_peeling K C CP) := by
  refine h.hasF sc_peeling (fun _ => rfl) fun f cdv Ar outer s G A a vs Q E hr hp hA hv hk => ?_
  obtain ⟨n, sts, seen⟩ := a
  replace hp : StockOk seen.length sts := hp
  rcases hv with _ | ⟨hx, _ | ⟨hs, _ | _⟩⟩
  rename_i vst v2
  obtain rfl : v2 = V.str (S seen) := hs
  replace hx : Is K G (stockC K C (n : Int) sts) vst := hx
  have sc := sc_peeling
  have few := hp.lot.few
  have sz := hp.lot.sz
  refine ⟨_, (pss_cons (ps_set (i := 2) sc.nd rfl (Or.inl rfl) (pv 1))
    (pss_cons (ps_set (i := 3) sc.nd rfl (Or.inl rfl) (pe_lst pa_nil))
    (pss_cons (ps_set (i := 4) sc.nd rfl (Or.inl rfl) (pe_callH C_first_to_peel (hr.mono (by decide)) (pa_cons (pv 0) (pa_cons (pv 2) pa_nil))))
    (pss_cons (ps_while PassesOwn.never (pt_cmpR op_notN1 (pv 4) pe_non (nomark _)) (pss_cons (ps_expr (pe_bm_k (K := K) PySem.F.plainAttrs_list PySem.F.slot_list_append PySem.F.type_list_append mt_append (pv 3) (pa_cons (pv 4) pa_nil)))
    (pss_cons (ps_set (i := 2) sc.nd rfl (Or.inl rfl) (pe_callH C_peeled (hr.mono (by decide)) (pa_cons (pv 2) (pa_cons (pe_meth (pv 0) TS.cl M_stamp F_stamp (hr.mono (by decide)) b_stamp .nil pass0 (pa_cons (pv 4) pa_nil)) pa_nil))))
    (pss_one (ps_set (i := 4) sc.nd rfl (Or.inl rfl) (pe_callH C_first_to_peel (hr.mono (by decide)) (pa_cons (pv 0) (pa_cons (pv 2) pa_nil))))))))
    (pss_one (ps_ret (pe_make M_initP F_initP (hr.mono (by decide)) (by rfl) TP.mgC b_initP .nil pass0 (pa_cons (pv 1) (pa_cons (pe_callTy (cr_tuple_k (K := K)) (by rfl) T.b_tuple (by decide +kernel) (pa_cons (pv 3) pa_nil)) (pa_cons (pv 2) pa_nil)))))))))), ?_⟩
  refine a_setv (K := K) (x := .str (S seen)) (er_v rfl) fun H1 e1 => ?_
  refine a_new fun o H2 ho1 e2 h2 => ?_
  have E2 : Ex A H2 := e1.trans e2
  have ho : A o = none := ex_out e1 ho1
  have first : ∀ {σ : L2.St} {H' : Hp} {left : List Nat}, Ex A H' → σ[0]? = some (some vst) → σ[2]? = some (some (.str (S left))) → left.length = seen.length → Er K (tCall (sp_first K C) [] E0 (tCons (tVar 0) (tCons (tVar 2) tNil))) σ H' (.v (nameV (sts.find? (peelC left)))) := fun {σ H' left} e q0 q2 hl => er_callF (n, sts, left) (era_cons (Er.as (er_var q0 (hx.mono (hA.trans e))) fun Hx v z => stockC_D z) (era_cons (er_v q2) era_nil)) rfl ⟨few, by show left.length ≤ 1000; omega⟩
  refine a_setv (K := K) (x := nameV (sts.find? (peelC seen))) (first E2 rfl rfl rfl) fun H3 e3 => ?_
  have E3 := E2.trans e3
  have h3 := e3 o _ h2
  refine ⟨fun m σ' H' => ∃ names left, σ' = [some vst, some (.str (S seen)), some (.str (S left)), some (.ref o), some (nameV (sts.find? (peelC left)))] ∧ Ex A H' ∧ H' o = some (.lst (vsl names)) ∧ left.length = seen.length ∧ m = marksN left ∧ names.length + marksN left ≤ marksN seen ∧ (names ++ (walkP sts (marksN left) left).1, (walkP sts (marksN left) left).2) = walkP sts (marksN seen) seen, ⟨_, [], seen, rfl, E3, h3, rfl, rfl, by simp, rfl⟩, ?_⟩
  rintro m σ' H' ⟨names, left, rfl, e, hO, hl, rfl, hle, hW⟩
  have hms := marksN_le seen
  cases hf : sts.find? (peelC left) with
  | none =>
    refine (show Et K _ _ H' false from et1 (er_op (er_v rfl) er_c (ro_notN (x := .non)))) H' (Ex.refl _) _ fun H4 e4 => ?_
    rw [if_neg Bool.false_ne_true]
    have E4 := e.trans e4
    have hO4 := e4 o _ hO
    rw [walkP_none hf, List.append_nil] at hW
    have S1 : Step G A (upd G o (.lst (vsl names))) H4 := Step.seal (Step.on hA E4) ho (ex_out hA ho) hO4
    have hON : Is K (upd G o (.lst (vsl names))) (.N (names.map fun l => Dd.s (S l))) (.ref o) := by
      have z : Is K (upd G o (.lst (vsl names))) (.n (vsl names)) (.ref o) := ⟨o, rfl, upd_same⟩
      have e8 : (vsl names).map Dd.v = names.map fun l => Dd.s (S l) := by
        rw [vsl, vss, List.map_map, List.map_map]
        rfl
      rw [← e8]
      exact z.n2N
    refine s_ret (K := K) (G := upd G o (.lst (vsl names))) (d := peelO K CP seen names left) (ef_makeP (efa_cons (ef_flat (er_v rfl)) (efa_cons (ef_cb (efa_cons (ef_var rfl hON) efa_nil) rf_tupN) (efa_cons (ef_flat (er_v rfl)) efa_nil)))) S1.v ?_ fun v G' A' st z => hk v G' A' (S1.trans st) z
    show peelO K CP seen names left = peelO K CP seen (walkP sts (marksN seen) seen).1 (walkP sts (marksN seen) seen).2
    rw [← hW]
  | some p =>
    have hpm := List.mem_of_find?_eq_some hf
    have hpk : peelC left p = true := List.find?_some hf
    have hst := hp.lot.st p hpm
    have hlt : marksN (freeM left p.2) < marksN left := by
      simp only [peelC, Bool.and_eq_true, Bool.not_eq_true', decide_eq_false_iff_not] at hpk
      exact (free_marks (by omega)).2 hpk.2
    refine (show Et K _ _ H' true from et1 (er_op (er_v rfl) er_c (ro_notN (x := .str (S p.1))))) H' (Ex.refl _) _ fun H4 e4 => ?_
    rw [if_pos rfl]
    have E4 := e.trans e4
    have hO4 := e4 o _ hO
    refine ⟨_, fun σ2 H2 z => z, ?_⟩
    refine b_app (K := K) (x := .str (S p.1)) hO4 (er_v rfl) (er_v rfl) (by rw [vsl_len]; omega) fun H5 e5 => ?_
    have E5 : Ex A (upd H5 o (.lst (vsl names ++ [.str (S p.1)]))) := Ex.mut (E4.trans e5) ho
    refine a_setv (K := K) (x := .str (S (freeM left p.2))) (er_call (left, p.2) (era_cons (er_v rfl) (era_cons (Er.to (er_stampCall (n := n) (sts := sts) (name := p.1) (er_var rfl (hx.mono (hA.trans E5))) (er_v rfl) ⟨p, hpm, rfl⟩) (by rw [stampOf_first hp.di hpm])) era_nil)) rfl (by show left.length ≤ 1000; omega)) fun H6 e6 => ?_
    have E6 := E5.trans e6
    have hfl : (freeM left p.2).length = seen.length := by rw [freeM_len2 (by omega), hl]
    refine a_setv1 (K := K) (x := nameV (sts.find? (peelC (freeM left p.2)))) (first E6 rfl rfl hfl) fun H7 e7 => ?_
    refine ⟨marksN (freeM left p.2), hlt, names ++ [p.1], freeM left p.2, rfl, E6.trans e7, ?_, hfl, rfl, ?_, ?_⟩
    · rw [e7 o _ (e6 o _ upd_same), vsl_app]
    · rw [List.length_append]
      show names.length + 1 + _ ≤ _
      omega
    · rw [← hW]
      obtain ⟨k, hk2⟩ : ∃ k, marksN left = k + 1 := ⟨marksN left - 1, by omega⟩
      rw [hk2, walkP_some hf, walkP_enough hp.lot.st (n := k) (m := marksN (freeM left p.2)) hfl (by omega) (Nat.le_refl _), List.append_assoc]
      rfl
end
end Mi

set_option maxHeartbeats 4000000
namespace Mi
open PySem PySem.Spec PyProof.Rows L2 Evl
local macro_rules | `(tactic| walk_at "side") => `(tactic| (first | assumption | omega | exact rfl | decide | (simp only [List.length_cons, List.length_nil, List.length_map, List.length_append, List.length_replicate] <;> omega)))
local macro_rules | `(tactic| walk_at "ro") => `(tactic| (first
  | with_reducible exact ro_I0
  | with_reducible exact ro_1018
  | with_reducible exact ro_neC
  | with_reducible exact ro_eqC
  | with_reducible exact ro_neI
  | with_reducible exact ro_eqI
  | with_reducible exact ro_neB
  | with_reducible exact ro_eqB
  | ((with_reducible apply ro_mod); (walk_at "side"))
  | ((with_reducible apply ro_div) <;> (walk_at "side"))
  | ((with_reducible apply ro_divW) <;> (walk_at "side"))
  | with_reducible exact ro_1012
  | with_reducible exact ro_1015
  | ((with_reducible apply ro_mulL) <;> (walk_at "side"))
  | ((with_reducible apply ro_mulR) <;> (walk_at "side"))
  | ((with_reducible apply ro_addC); (walk_at "side"))
  | ((with_reducible apply ro_ixC) <;> (walk_at "side"))
  | ((with_reducible apply ro_ixI) <;> (walk_at "side"))
  | ((with_reducible apply ro_ixIN) <;> (walk_at "side"))
  | ((with_reducible apply ro_ixT2) <;> (walk_at "side"))
  | ((with_reducible apply ro_ixG) <;> (walk_at "side"))
  | ((with_reducible apply ro_eq); exact rfl)
  | ((with_reducible apply ro_ne); exact rfl)
  | with_reducible exact ro_isN
  | with_reducible exact ro_notN
  | with_reducible exact ro_eqL
  | with_reducible exact ro_neL
  | with_reducible exact ro_eqU
  | ((with_reducible apply ro_cat); (walk_at "side"))
  | with_reducible exact ro_inLi
  | with_reducible exact ro_inNi
  | with_reducible exact ro_inUi
  | ((with_reducible apply ro_inL) <;> (walk_at "side"))
  | ((with_reducible apply ro_inN) <;> (walk_at "side"))
  | ((with_reducible apply ro_inU) <;> (walk_at "side"))))
local macro_rules | `(tactic| walk_at "rc") => `(tactic| (first
  | with_reducible exact rc_int
  | with_reducible exact rc_intB
  | with_reducible exact rc_max2
  | ((with_reducible apply rc_lenC); (walk_at "side"))
  | with_reducible exact rc_lenI
  | with_reducible exact rc_lenT
  | with_reducible exact rc_lenIN
  | with_reducible exact rc_lenTN
  | with_reducible exact rc_lenL
  | with_reducible exact rc_lenN
  | with_reducible exact rc_lenU
  | with_reducible exact rc_listL
  | with_reducible exact rc_listU
  | with_reducible exact rc_tupL
  | with_reducible exact rc_tupN
  | ((with_reducible apply rc_isi_int); decide +kernel)
  | ((with_reducible apply rc_isi_str); decide +kernel)
  | ((with_reducible apply rc_isi_bl); decide +kernel)
  | ((with_reducible apply rc_isi_non); decide +kernel)
  | ((with_reducible apply rc_isi_u); decide +kernel)
  | ((with_reducible apply rc_isi_l); decide +kernel)))
local macro_rules | `(tactic| walk_at "er") => `(tactic| (first
  | ((with_reducible apply er_var); (exact rfl); assumption)
  | ((with_reducible apply er_v); exact rfl)
  | with_reducible exact er_c
  | ((with_reducible apply er_pick); (walk_at "er"); (walk_at "er"); (walk_at "er"))
  | ((with_reducible apply er_op); (walk_at "er"); (walk_at "er"); (walk_at "ro"))
  | ((with_reducible apply er_cb); (walk_at "era"); (walk_at "rc"))
  | ((with_reducible apply er_lst'); (walk_at "era"); (exact rfl); (walk_at "side"))
  | ((with_reducible apply er_tup'); (walk_at "era"); (exact rfl); (walk_at "side"))
  | ((with_reducible apply er_notV); (walk_at "er"))
  | ((with_reducible apply er_andV); (walk_at "er"); (intro _; (walk_at "er")))
  | ((with_reducible apply er_orV); (walk_at "er"); (intro _; (walk_at "er")))
  | ((with_reducible apply er_ite); (walk_at "et"); (intro _; (walk_at "er")); (intro _; (walk_at "er")))))
local macro_rules | `(tactic| walk_at "era") => `(tactic| (first
  | with_reducible exact era_nil
  | ((with_reducible apply era_cons); (walk_at "er"); (walk_at "era"))))
local macro_rules | `(tactic| walk_at "et") => `(tactic| (first
  | ((with_reducible apply et_an); (walk_at "et"); (intro _; (walk_at "et")))
  | ((with_reducible apply et_orr); (walk_at "et"); (intro _; (walk_at "et")))
  | ((with_reducible apply et_nt); (walk_at "et"))
  | ((with_reducible apply et1); (walk_at "er"))
  | ((with_reducible apply et2); (walk_at "er"))))

section
variable {P : Program} {w : World} {K : PySem.W.Frag} {mg : Str → Option Value} {base : Heap}
/-! ### lists of numbers, seen at once -/
section
variable {σ : L2.St} {G A : Hp} {te tl : TE} {tr : TA} {d : Dd}
theorem ef_lstn {vs : List V} (h : Era K tr σ G (vs.map Dd.v)) (hl : vs.length ≤ 100000) : Ef K (tLst tr) σ G (.n vs) := fun G1 A e1 e2 Q q =>
  h A (e1.trans e2) _ fun ws H2 e z => by
    have ew := flat_all z
    subst ew
    exact ⟨sz_of hl, fun p hp => q _ (upd G1 p (.lst ws)) _ ((Step.on e2 e).trans (Step.new (e2.trans e) hp)) ⟨p, rfl, upd_same⟩⟩
theorem rof_cat {xs zs : List V} (h : xs.length + zs.length ≤ 100000) : Rof K rCat (.n xs) (.n zs) (.n (xs ++ zs)) := by
  rintro _ _ G A e ⟨p, rfl, hp⟩ ⟨p', rfl, hp'⟩ Q q
  exact ⟨p, p', xs, zs, rfl, rfl, e p _ hp, e p' _ hp', sz_of h, fun l hl => q _ (upd G l (.lst (xs ++ zs))) _ (Step.new e hl) ⟨l, rfl, upd_same⟩⟩
theorem Ef.n2l {xs : List V} (h : Ef K te σ G (.n xs)) : Ef K te σ G (.l xs) := fun G1 A e1 e2 Q q => h G1 A e1 e2 Q fun v G' A' s z => q v G' A' s z.n2l
end

abbrev s__law_subsets : Stmt := topS 59
theorem sc__law_subsets : FnScope ["cells", "sets", "cell", "some"] ["cells"] (defScope s__law_subsets) := ⟨rfl, rfl, rfl, by decide +kernel, rfl, by decide +kernel, by decide +kernel⟩

def subsN (cs : List Nat) : List (List Nat) := cs.foldl (fun acc c => acc ++ acc.map fun s => s ++ [c]) [[]]
theorem subsN_next {cs : List Nat} {i c : Nat} (h : cs[i]? = some c) : subsN (cs.take (i + 1)) = subsN (cs.take i) ++ (subsN (cs.take i)).map fun s => s ++ [c] := by
  unfold subsN
  rw [List.take_add_one, h, List.foldl_append]
  rfl
theorem subsN_len (cs : List Nat) : (subsN cs).length = 2 ^ cs.length ∧ ∀ s ∈ subsN cs, s.length ≤ cs.length := by
  have key : ∀ (l : List Nat) (acc : List (List Nat)) (n : Nat), (∀ s ∈ acc, s.length ≤ n) → (l.foldl (fun acc c => acc ++ acc.map fun s => s ++ [c]) acc).length = acc.length * 2 ^ l.length ∧ ∀ s ∈ l.foldl (fun acc c => acc ++ acc.map fun s => s ++ [c]) acc, s.length ≤ n + l.length := by
    intro l
    induction l with
    | nil => intro acc n h; exact ⟨by simp, h⟩
    | cons c r ih =>
      intro acc n h
      have h2 : ∀ s ∈ acc ++ acc.map (fun s => s ++ [c]), s.length ≤ n + 1 := by
        intro s hs
        rcases List.mem_append.mp hs with q | q
        · have := h s q; omega
        · obtain ⟨t, ht, rfl⟩ := List.mem_map.mp q
          have := h t ht
          rw [List.length_append]
          simp
          omega
      obtain ⟨i1, i2⟩ := ih (acc ++ acc.map fun s => s ++ [c]) (n + 1) h2
      refine ⟨?_, fun s hs => ?_⟩
      · show (r.foldl _ (acc ++ acc.map fun s => s ++ [c])).length = _
        rw [i1, List.length_append, List.length_map, List.length_cons, Nat.pow_succ]
        rw [← Nat.two_mul, Nat.mul_comm 2, Nat.mul_assoc, Nat.mul_comm 2]
      · have := i2 s hs
        rw [List.length_cons]
        omega
  have := key cs [[]] 0 (by simp)
  refine ⟨by simpa [subsN] using this.1, fun s hs => by have := this.2 s hs; omega⟩
theorem subsN_few {cs : List Nat} (h : cs.length ≤ 5) : (subsN cs).length ≤ 32 := by
  rw [(subsN_len cs).1]
  calc 2 ^ cs.length ≤ 2 ^ 5 := Nat.pow_le_pow_right (by decide) h
    _ = 32 := by decide
def setsD (L : List (List Nat)) : Dd := .N (L.map fun s => Dd.n (cvs s))
abbrev sp__law_subsets (K : PySem.W.Frag) : Sp := spF K (fun cs : List Nat => cs.length ≤ 5) (fun cs => [.L (cs.map fun c : Nat => Dd.i (c : Int))]) fun cs => setsD (subsN cs)
theorem has__law_subsets (T : Txt K mg) (h : At K mg "_law_subsets" s__law_subsets ["cells"]) : Has P w K mg base 1 "_law_subsets" ["cells"] (sp__law_subsets K) := by
  refine h.hasF sc__law_subsets (fun _ => rfl) fun f cdv Ar outer s G A cs vs Q E hr hp hA hv hk => ?_
  replace hp : cs.length ≤ 5 := hp
  rcases hv with _ | ⟨hx, _ | _⟩
  rename_i x
  replace hx : Is K G (.L (cs.map fun c : Nat => Dd.i (c : Int))) x := hx
  have sc := sc__law_subsets
  refine ⟨_, (pss_cons (ps_set (i := 1) sc.nd rfl (Or.inl rfl) (pe_lst (pa_cons (pe_lst pa_nil) pa_nil)))
    (pss_cons (ps_for PassesOwn.never rfl (pi_list_k (K := K) (pv 0)) (pg_name (i := 2) sc.nd rfl (Or.inr rfl)) (pss_one (ps_set (i := 1) sc.nd rfl (Or.inl rfl) (pe_op op_cat (pv 1) (pe_lc (own := [("some", 3)]) (g := gName 3) (by rfl) sc.nd (pi_list_k (K := K) (pv 1)) (blkOk_by (N := ["cells", "sets", "cell", "some"]) (sc := defScope s__law_subsets) (own := [("some", 3)]) (by decide +kernel)) (fun _ _ _ _ _ => (pg_name (i := 3) sc.nd rfl (Or.inl rfl))) (fun _ _ _ _ _ => pts_nil) (fun _ _ _ _ _ => (pe_op op_cat (pv 3) (pe_lst (pa_cons (pv 2) pa_nil)))))))))
    (pss_one (ps_ret (pv 1))))), ?_⟩
  refine s_set (K := K) (G := G) (d := setsD [[]]) (ef_N (efa_cons (ef_lstn (vs := []) era_nil (by simp)) efa_nil) (by simp)) hA fun v0 G1 A1 s1 hv0 => ?_
  refine b_for (K := K) (G := G1) (ds := cs.map fun c : Nat => Dd.i (c : Int)) (if_list (ef_var rfl (hx.mono s1.g))) s1.v (fun i σ' G' A' => ∃ v y z, σ' = [some x, some v, y, z] ∧ Is K G' (setsD (subsN (cs.take i))) v ∧ Step G A G' A') (fun G2 A2 s2 => ⟨v0, none, none, rfl, hv0.mono s2.g, s1.trans s2⟩) ?_ ?_
  · rintro G3 eg i d v σ' G' A' G4 A4 hd ⟨v1, y, z, rfl, hv1, st⟩ e1 e2 s2 hv
    obtain ⟨c, hc, rfl⟩ : ∃ c, cs[i]? = some c ∧ Dd.i (c : Int) = d := by
      rw [List.getElem?_map] at hd
      cases q : cs[i]? with
      | none => rw [q] at hd; cases hd
      | some c => rw [q] at hd; exact ⟨c, rfl, Option.some.inj hd⟩
    obtain rfl : v = V.int (c : Int) := hv
    have hi : i < cs.length := (List.getElem?_eq_some_iff.mp hc).1
    have hf := subsN_few (cs := cs.take i) (by rw [List.length_take]; omega)
    have hsl := (subsN_len (cs.take i)).2
    have hv4 := hv1.mono s2.g
    have hb : ∀ s ∈ subsN (cs.take i), s.length ≤ 5 := fun s hs => Nat.le_trans (hsl s hs) (by rw [List.length_take]; omega)
    refine s_set1 (K := K) (G := G4) (d := setsD (subsN (cs.take (i + 1)))) (Ef.to (ef_op (ef_var rfl hv4) (Ef.to (ef_lc (K := K) (its := subsN (cs.take i)) (inj := fun s => Dd.n (cvs s)) (vs := [3]) (fun _ => true) (fun s => Dd.n (cvs (s ++ [c]))) (if_list (ef_var rfl hv4.N2L)) (by omega) (fun k s w G' A' e3 e4 hk2 hw => ?_)) (by rw [filt_true])) (rf_cat (by rw [List.length_map, List.length_map]; omega))) ?_) s2.v fun w G5 A5 s5 hw => ?_
    · have hs5 := hb s (List.mem_of_getElem? hk2)
      refine ⟨[some x, some v1, some (.int (c : Int)), some w], fun Q q => q, rfl, fun H2 e Q q => q H2 (Ex.refl _), fun _ => Ef.to (ef_op (ef_var rfl hw) (ef_lstn (vs := [.int (c : Int)]) (era_cons (er_v rfl) era_nil) (by simp)) (rof_cat (by rw [cvs, List.length_map]; simp; omega))) ?_⟩
      simp [cvs]
    · rw [subsN_next hc]
      unfold setsD
      rw [List.map_append, List.map_map]
      rfl
    · exact ⟨G5, ⟨w, some (.int (c : Int)), z, rfl, hw, (st.trans s2).trans s5⟩, e1.trans (s2.g.trans s5.g), s5.v⟩
  · rintro σ' G' A' e1 e2 ⟨v, y, z, rfl, hv, st⟩
    rw [List.length_map, List.take_length] at hv
    exact ⟨v, rfl, hk v G' A' st hv⟩
end
end Mi

set_option maxHeartbeats 4000000
namespace Mi
open PySem PySem.Spec PyProof.Rows L2 Evl
local macro_rules | `(tactic| walk_at "side") => `(tactic| (first | assumption | omega | exact rfl | decide | (simp only [List.length_cons, List.length_nil, List.length_map, List.length_append, List.length_replicate] <;> omega)))
local macro_rules | `(tactic| walk_at "ro") => `(tactic| (first
  | with_reducible exact ro_I0
  | with_reducible exact ro_1018
  | with_reducible exact ro_neC
  | with_reducible exact ro_eqC
  | with_reducible exact ro_neI
  | with_reducible exact ro_eqI
  | with_reducible exact ro_neB
  | with_reducible exact ro_eqB
  | ((with_reducible apply ro_mod); (walk_at "side"))
  | ((with_reducible apply ro_div) <;> (walk_at "side"))
  | ((with_reducible apply ro_divW) <;> (walk_at "side"))
  | with_reducible exact ro_1012
  | with_reducible exact ro_1015
  | ((with_reducible apply ro_mulL) <;> (walk_at "side"))
  | ((with_reducible apply ro_mulR) <;> (walk_at "side"))
  | ((with_reducible apply ro_addC); (walk_at "side"))
  | ((with_reducible apply ro_ixC) <;> (walk_at "side"))
  | ((with_reducible apply ro_ixI) <;> (walk_at "side"))
  | ((with_reducible apply ro_ixIN) <;> (walk_at "side"))
  | ((with_reducible apply ro_ixT2) <;> (walk_at "side"))
  | ((with_reducible apply ro_ixG) <;> (walk_at "side"))
  | ((with_reducible apply ro_eq); exact rfl)
  | ((with_reducible apply ro_ne); exact rfl)
  | with_reducible exact ro_isN
  | with_reducible exact ro_notN
  | with_reducible exact ro_eqL
  | with_reducible exact ro_neL
  | with_reducible exact ro_eqU
  | ((with_reducible apply ro_cat); (walk_at "side"))
  | with_reducible exact ro_inLi
  | with_reducible exact ro_inNi
  | with_reducible exact ro_inUi
  | ((with_reducible apply ro_inL) <;> (walk_at "side"))
  | ((with_reducible apply ro_inN) <;> (walk_at "side"))
  | ((with_reducible apply ro_inU) <;> (walk_at "side"))))
local macro_rules | `(tactic| walk_at "rc") => `(tactic| (first
  | with_reducible exact rc_int
  | with_reducible exact rc_intB
  | with_reducible exact rc_max2
  | ((with_reducible apply rc_lenC); (walk_at "side"))
  | with_reducible exact rc_lenI
  | with_reducible exact rc_lenT
  | with_reducible exact rc_lenIN
  | with_reducible exact rc_lenTN
  | with_reducible exact rc_lenL
  | with_reducible exact rc_lenN
  | with_reducible exact rc_lenU
  | with_reducible exact rc_listL
  | with_reducible exact rc_listU
  | with_reducible exact rc_tupL
  | with_reducible exact rc_tupN
  | ((with_reducible apply rc_isi_int); decide +kernel)
  | ((with_reducible apply rc_isi_str); decide +kernel)
  | ((with_reducible apply rc_isi_bl); decide +kernel)
  | ((with_reducible apply rc_isi_non); decide +kernel)
  | ((with_reducible apply rc_isi_u); decide +kernel)
  | ((with_reducible apply rc_isi_l); decide +kernel)))
local macro_rules | `(tactic| walk_at "er") => `(tactic| (first
  | ((with_reducible apply er_var); (exact rfl); assumption)
  | ((with_reducible apply er_v); exact rfl)
  | with_reducible exact er_c
  | ((with_reducible apply er_pick); (walk_at "er"); (walk_at "er"); (walk_at "er"))
  | ((with_reducible apply er_op); (walk_at "er"); (walk_at "er"); (walk_at "ro"))
  | ((with_reducible apply er_cb); (walk_at "era"); (walk_at "rc"))
  | ((with_reducible apply er_lst'); (walk_at "era"); (exact rfl); (walk_at "side"))
  | ((with_reducible apply er_tup'); (walk_at "era"); (exact rfl); (walk_at "side"))
  | ((with_reducible apply er_notV); (walk_at "er"))
  | ((with_reducible apply er_andV); (walk_at "er"); (intro _; (walk_at "er")))
  | ((with_reducible apply er_orV); (walk_at "er"); (intro _; (walk_at "er")))
  | ((with_reducible apply er_ite); (walk_at "et"); (intro _; (walk_at "er")); (intro _; (walk_at "er")))))
local macro_rules | `(tactic| walk_at "era") => `(tactic| (first
  | with_reducible exact era_nil
  | ((with_reducible apply era_cons); (walk_at "er"); (walk_at "era"))))
local macro_rules | `(tactic| walk_at "et") => `(tactic| (first
  | ((with_reducible apply et_an); (walk_at "et"); (intro _; (walk_at "et")))
  | ((with_reducible apply et_orr); (walk_at "et"); (intro _; (walk_at "et")))
  | ((with_reducible apply et_nt); (walk_at "et"))
  | ((with_reducible apply et1); (walk_at "er"))
  | ((with_reducible apply et2); (walk_at "er"))))

section
variable {P : Program} {w : World} {K : PySem.W.Frag} {mg : Str → Option Value} {base : Heap}
/-! ### Making(..) -/
abbrev s_Making___init__ : Stmt := inClass (topS 36) 0
theorem sc_Making___init__ : FnScope ["self", "made", "row", "cells", "cell"] ["self", "made", "row", "cells", "cell"] (defScope s_Making___init__) := ⟨rfl, rfl, rfl, by decide +kernel, rfl, by decide +kernel, by decide +kernel⟩

structure MkTxt (K : PySem.W.Frag) (mg : Str → Option Value) (C : Addr) : Prop where
  cl : Cls K C
  nM : NoAttr K C "made"
  nR : NoAttr K C "row"
  nC : NoAttr K C "cells"
  nE : NoAttr K C "cell"
  mgC : mg "Making" = some (.ref C)
theorem putF_len {f : Str} {v : V} : ∀ {fs : List (Str × V)}, (putF f v fs).length ≤ fs.length + 1
  | [] => Nat.le_refl _
  | (g, w) :: r => by
    by_cases h : g = f
    · simp [putF, h]
    · have := putF_len (f := f) (v := v) (fs := r)
      simp [putF, h]
      omega
def mkFlds (made : Bool) (vr vc cell : V) : List (Str × V) := putF "cell" cell (putF "cells" vc (putF "row" vr (putF "made" (.bl made) [])))
def makO (K : PySem.W.Frag) (C : Addr) (made : Bool) (dr dc : Dd) (cell : V) : Dd := .P ⟨fun H y => ∃ x dx vr vc, y = .ref x ∧ H x = some (.ins C dx (mkFlds made vr vc cell)) ∧ Is K H dr vr ∧ Is K H dc vc, by
  rintro H H' y e ⟨x, dx, vr, vc, rfl, h1, h2, h3⟩
  exact ⟨x, dx, vr, vc, rfl, e x _ h1, h2.mono e, h3.mono e⟩⟩
def spInitM (K : PySem.W.Frag) (C : Addr) : Sp := fun vs A Q _ => ∃ (x : Addr) (made : Bool) (dr dc : Dd) (vr vc cell : V), vs = [.ref x, .bl made, vr, vc, cell] ∧ ∃ dx G A0, Ex G A0 ∧ Ex A0 A ∧ A0 x = none ∧ A x = some (.ins C dx []) ∧ Is K G dr vr ∧ Is K G dc vc ∧ ∀ G' A', Step G A0 G' A' → Is K G' (makO K C made dr dc cell) (.ref x) → Q .non A'
theorem ok_initM {f C : Addr} {fd : FuncData} (F : Fun K "__init__" "Making.__init__" s_Making___init__ f fd) (T : Txt K mg) (TM : MkTxt K mg C) : FnOk P w K mg base CX0 1 f fd ["self", "made", "row", "cells", "cell"] (spInitM K C) := by
  have sc := sc_Making___init__
  refine F.ok sc (fun vs H Q E h => ?_) (fun cdv Ar outer s A vs Q E hr h => ?_)
  · obtain ⟨x, made, dr, dc, vr, vc, cell, rfl, _⟩ := h
    rfl
  obtain ⟨x, made, dr, dc, vr, vc, cell, rfl, dx, G, A0, hGA, hA, hx0, hx, hw1, hw2, hk⟩ := h
  refine ⟨_, (pss_cons (ps_fld (pv 0) (pv 1) rfl)
    (pss_cons (ps_fld (pv 0) (pv 2) rfl)
    (pss_cons (ps_fld (pv 0) (pv 3) rfl)
    (pss_one (ps_fld (pv 0) (pv 4) rfl))))), ?_⟩
  have s0 : Step G A0 G A := .on hGA hA
  have gx : G x = none := ex_out hGA hx0
  have l1 := putF_len (f := "made") (v := .bl made) (fs := [])
  have l2 := putF_len (f := "row") (v := vr) (fs := putF "made" (.bl made) [])
  have l3 := putF_len (f := "cells") (v := vc) (fs := putF "row" vr (putF "made" (.bl made) []))
  simp only [List.length_nil] at l1
  refine ⟨_, rfl, _, rfl, x, C, dx, [], rfl, hx, TM.cl, TM.nM, by decide, ?_⟩
  refine ⟨_, rfl, _, rfl, x, C, dx, _, rfl, upd_same, TM.cl, TM.nR, Nat.lt_of_le_of_lt l1 (by decide), ?_⟩
  rw [upd_upd]
  refine ⟨_, rfl, _, rfl, x, C, dx, _, rfl, upd_same, TM.cl, TM.nC, Nat.lt_of_le_of_lt (Nat.le_trans l2 (Nat.add_le_add_right l1 1)) (by decide), ?_⟩
  rw [upd_upd]
  refine ⟨_, rfl, _, rfl, x, C, dx, _, rfl, upd_same, TM.cl, TM.nE, Nat.lt_of_le_of_lt (Nat.le_trans l3 (Nat.add_le_add_right (Nat.le_trans l2 (Nat.add_le_add_right l1 1)) 1)) (by decide), ?_⟩
  rw [upd_upd]
  have S5 := s0.grow (o := .ins C dx (mkFlds made vr vc cell)) hx0 gx
  exact hk _ _ (S5.seal hx0 gx upd_same) ⟨x, dx, vr, vc, rfl, upd_same, hw1.mono (Ex.new gx), hw2.mono (Ex.new gx)⟩
theorem ef_makeM {σ : L2.St} {G : Hp} {tr : TA} {C : Addr} {made : Bool} {dr dc : Dd} {cell : V} (h : Efa K tr σ G [.b made, dr, dc, .v cell]) : Ef K (tMake C (spInitM K C) [] E0 tr) σ G (makO K C made dr dc cell) := fun G1 A1 e1 e2 Q q =>
  h G1 A1 e1 e2 _ fun vs G2 A2 s2 z => by
    rcases z with _ | ⟨z1, _ | ⟨z2, _ | ⟨z3, _ | ⟨z4, _ | _⟩⟩⟩⟩
    rename_i v1 v2 v3 v4
    obtain rfl : v1 = V.bl made := z1
    obtain rfl : v4 = cell := z4
    intro x dx hx hdx ne
    refine ⟨x, made, dr, dc, v2, v3, v4, rfl, dx, G2, A2, s2.v, ?_, hx, upd_same, z2, z3, fun G' A' s hv => ⟨rfl, q _ G' A' (s2.trans s) hv⟩⟩
    exact (Ex.new hdx).trans (Ex.new (by rw [upd_ne (Ne.symm ne)]; exact hx))
/-! ### fields of a Peeling -/
theorem ne_p2 : ¬ (("left" : Str) = "order") := by decide +kernel
theorem ne_p3 : ¬ (("order" : Str) = "left") := by decide +kernel
theorem er_left {σ : L2.St} {H : Hp} {te : TE} {C : Addr} {seen left : List Nat} {names : List (List Nat)} (cl : Cls K C) (na : NoAttr K C "left") (h : Er K te σ H (peelO K C seen names left)) : Er K (tFld K te "left") σ H (.s (S left)) := fun H1 e Q q =>
  h H1 e _ fun v H2 e2 ⟨x, dx, po, ev, h1, h2⟩ => by
    subst ev
    refine ⟨x, C, dx, _, .str (S left), rfl, h1, cl, na, ?_, q _ H2 e2 rfl⟩
    unfold peFlds
    rw [lookup_putF, if_pos rfl]
theorem er_order {σ : L2.St} {H : Hp} {te : TE} {C : Addr} {seen left : List Nat} {names : List (List Nat)} (cl : Cls K C) (na : NoAttr K C "order") (h : Er K te σ H (peelO K C seen names left)) : Er K (tFld K te "order") σ H (.U (names.map fun l => Dd.s (S l))) := fun H1 e Q q =>
  h H1 e _ fun v H2 e2 ⟨x, dx, po, ev, h1, h2⟩ => by
    subst ev
    refine ⟨x, C, dx, _, .ref po, rfl, h1, cl, na, ?_, q _ H2 e2 h2⟩
    unfold peFlds
    rw [lookup_putF, if_neg ne_p3, lookup_putF, if_pos rfl]
end
end Mi

set_option maxHeartbeats 4000000
namespace Mi
open PySem PySem.Spec PyProof.Rows L2 Evl
local macro_rules | `(tactic| walk_at "side") => `(tactic| (first | assumption | omega | exact rfl | decide | (simp only [List.length_cons, List.length_nil, List.length_map, List.length_append, List.length_replicate] <;> omega)))
local macro_rules | `(tactic| walk_at "ro") => `(tactic| (first
  | with_reducible exact ro_I0
  | with_reducible exact ro_1018
  | with_reducible exact ro_neC
  | with_reducible exact ro_eqC
  | with_reducible exact ro_neI
  | with_reducible exact ro_eqI
  | with_reducible exact ro_neB
  | with_reducible exact ro_eqB
  | ((with_reducible apply ro_mod); (walk_at "side"))
  | ((with_reducible apply ro_div) <;> (walk_at "side"))
  | ((with_reducible apply ro_divW) <;> (walk_at "side"))
  | with_reducible exact ro_1012
  | with_reducible exact ro_1015
  | ((with_reducible apply ro_mulL) <;> (walk_at "side"))
  | ((with_reducible apply ro_mulR) <;> (walk_at "side"))
  | ((with_reducible apply ro_addC); (walk_at "side"))
  | ((with_reducible apply ro_ixC) <;> (walk_at "side"))
  | ((with_reducible apply ro_ixI) <;> (walk_at "side"))
  | ((with_reducible apply ro_ixIN) <;> (walk_at "side"))
  | ((with_reducible apply ro_ixT2) <;> (walk_at "side"))
  | ((with_reducible apply ro_ixG) <;> (walk_at "side"))
  | ((with_reducible apply ro_eq); exact rfl)
  | ((with_reducible apply ro_ne); exact rfl)
  | with_reducible exact ro_isN
  | with_reducible exact ro_notN
  | with_reducible exact ro_eqL
  | with_reducible exact ro_neL
  | with_reducible exact ro_eqU
  | ((with_reducible apply ro_cat); (walk_at "side"))
  | with_reducible exact ro_inLi
  | with_reducible exact ro_inNi
  | with_reducible exact ro_inUi
  | ((with_reducible apply ro_inL) <;> (walk_at "side"))
  | ((with_reducible apply ro_inN) <;> (walk_at "side"))
  | ((with_reducible apply ro_inU) <;> (walk_at "side"))))
local macro_rules | `(tactic| walk_at "rc") => `(tactic| (first
  | with_reducible exact rc_int
  | with_reducible exact rc_intB
  | with_reducible exact rc_max2
  | ((with_reducible apply rc_lenC); (walk_at "side"))
  | with_reducible exact rc_lenI
  | with_reducible exact rc_lenT
  | with_reducible exact rc_lenIN
  | with_reducible exact rc_lenTN
  | with_reducible exact rc_lenL
  | with_reducible exact rc_lenN
  | with_reducible exact rc_lenU
  | with_reducible exact rc_listL
  | with_reducible exact rc_listU
  | with_reducible exact rc_tupL
  | with_reducible exact rc_tupN
  | ((with_reducible apply rc_isi_int); decide +kernel)
  | ((with_reducible apply rc_isi_str); decide +kernel)
  | ((with_reducible apply rc_isi_bl); decide +kernel)
  | ((with_reducible apply rc_isi_non); decide +kernel)
  | ((with_reducible apply rc_isi_u); decide +kernel)
  | ((with_reducible apply rc_isi_l); decide +kernel)))
local macro_rules | `(tactic| walk_at "er") => `(tactic| (first
  | ((with_reducible apply er_var); (exact rfl); assumption)
  | ((with_reducible apply er_v); exact rfl)
  | with_reducible exact er_c
  | ((with_reducible apply er_pick); (walk_at "er"); (walk_at "er"); (walk_at "er"))
  | ((with_reducible apply er_op); (walk_at "er"); (walk_at "er"); (walk_at "ro"))
  | ((with_reducible apply er_cb); (walk_at "era"); (walk_at "rc"))
  | ((with_reducible apply er_lst'); (walk_at "era"); (exact rfl); (walk_at "side"))
  | ((with_reducible apply er_tup'); (walk_at "era"); (exact rfl); (walk_at "side"))
  | ((with_reducible apply er_notV); (walk_at "er"))
  | ((with_reducible apply er_andV); (walk_at "er"); (intro _; (walk_at "er")))
  | ((with_reducible apply er_orV); (walk_at "er"); (intro _; (walk_at "er")))
  | ((with_reducible apply er_ite); (walk_at "et"); (intro _; (walk_at "er")); (intro _; (walk_at "er")))))
local macro_rules | `(tactic| walk_at "era") => `(tactic| (first
  | with_reducible exact era_nil
  | ((with_reducible apply era_cons); (walk_at "er"); (walk_at "era"))))
local macro_rules | `(tactic| walk_at "et") => `(tactic| (first
  | ((with_reducible apply et_an); (walk_at "et"); (intro _; (walk_at "et")))
  | ((with_reducible apply et_orr); (walk_at "et"); (intro _; (walk_at "et")))
  | ((with_reducible apply et_nt); (walk_at "et"))
  | ((with_reducible apply et1); (walk_at "er"))
  | ((with_reducible apply et2); (walk_at "er"))))

section
variable {P : Program} {w : World} {K : PySem.W.Frag} {mg : Str → Option Value} {base : Heap}
/-! ### mathematics of the peeling -/
theorem agree_at {a b : List Nat} (h : agreeM a b = true) (hl : a.length = b.length) {c : Nat} (hc : c < a.length) : a.getD c 0 = b.getD c 0 ∨ (a.getD c 0 = 45 ∨ b.getD c 0 = 45) := by
  have h1 : a[c]? = some a[c] := List.getElem?_eq_getElem hc
  have h2 : b[c]? = some b[c] := List.getElem?_eq_getElem (by omega)
  have hz := List.all_eq_true.mp h _ (List.mem_of_getElem? (zip_at h1 h2))
  rw [List.getD_eq_getElem?_getD, List.getD_eq_getElem?_getD, h1, h2]
  simpa [okP] using hz
theorem free_at {a b : List Nat} (hl : a.length = b.length) {c : Nat} (hc : c < a.length) : (freeM a b).getD c 0 = if b.getD c 0 = 45 then a.getD c 0 else 45 := by
  have h1 : a[c]? = some a[c] := List.getElem?_eq_getElem hc
  have h2 : b[c]? = some b[c] := List.getElem?_eq_getElem (by omega)
  unfold freeM
  rw [List.getD_eq_getElem?_getD, List.getD_eq_getElem?_getD, List.getD_eq_getElem?_getD, List.getElem?_map, zip_at h1 h2, h1, h2]
  rfl
theorem press_at {a b : List Nat} (hl : a.length = b.length) {c : Nat} (hc : c < a.length) : (pressM a b).getD c 0 = if b.getD c 0 = 45 then a.getD c 0 else b.getD c 0 := by
  have h1 : a[c]? = some a[c] := List.getElem?_eq_getElem hc
  have h2 : b[c]? = some b[c] := List.getElem?_eq_getElem (by omega)
  unfold pressM
  rw [List.getD_eq_getElem?_getD, List.getD_eq_getElem?_getD, List.getD_eq_getElem?_getD, List.getElem?_map, zip_at h1 h2, h1, h2]
  rfl
/-- what the walk leaves: of the same size, within what was seen, and nothing more can be peeled off -/
theorem walkP_end {sts : List (List Nat × List Nat)} {size : Nat} (hl : ∀ p ∈ sts, p.2.length = size) : ∀ {n : Nat} {left : List Nat}, left.length = size → marksN left ≤ n → (walkP sts n left).2.length = size ∧ (∀ c < size, (walkP sts n left).2.getD c 0 = 45 ∨ (walkP sts n left).2.getD c 0 = left.getD c 0) ∧ sts.find? (peelC (walkP sts n left).2) = none
  | 0, left, hs, h1 => by
    refine ⟨hs, fun c hc => .inr rfl, ?_⟩
    show sts.find? (peelC left) = none
    cases hf : sts.find? (peelC left) with
    | none => rfl
    | some p =>
      have hp := List.find?_some hf
      have hm := hl p (List.mem_of_find?_eq_some hf)
      simp only [peelC, Bool.and_eq_true, Bool.not_eq_true', decide_eq_false_iff_not] at hp
      have := (free_marks (a := left) (b := p.2) (by omega)).2 hp.2
      omega
  | n + 1, left, hs, h1 => by
    cases hf : sts.find? (peelC left) with
    | none =>
      rw [walkP_none hf]
      exact ⟨hs, fun c hc => .inr rfl, hf⟩
    | some p =>
      have hp := List.find?_some hf
      have hm := hl p (List.mem_of_find?_eq_some hf)
      simp only [peelC, Bool.and_eq_true, Bool.not_eq_true', decide_eq_false_iff_not] at hp
      have hlt := (free_marks (a := left) (b := p.2) (by omega)).2 hp.2
      have hfl : (freeM left p.2).length = size := by rw [freeM_len2 (by omega), hs]
      obtain ⟨i1, i2, i3⟩ := walkP_end hl (n := n) hfl (by omega)
      rw [walkP_some hf]
      refine ⟨i1, fun c hc => ?_, i3⟩
      rcases i2 c hc with h | h
      · exact .inl h
      · rw [free_at (by omega) (by omega)] at h
        by_cases hb : p.2.getD c 0 = 45
        · rw [if_pos hb] at h
          exact .inr h
        · rw [if_neg hb] at h
          exact .inl h
/-- a fast set stays whole while stamps are peeled off -/
theorem fast_stays {sts : List (List Nat × List Nat)} {size : Nat} {seen cs : List Nat} (hl : ∀ p ∈ sts, p.2.length = size) (hcs : ∀ c ∈ cs, c < size) (hfast : fastL sts seen cs = true) : ∀ {n : Nat} {left : List Nat}, left.length = size → (∀ c ∈ cs, left.getD c 0 = seen.getD c 0) → ∀ c ∈ cs, (walkP sts n left).2.getD c 0 = seen.getD c 0
  | 0, left, hs, hw => hw
  | n + 1, left, hs, hw => by
    have h2 : cs.any (bareC seen) = false ∧ sts.any (breaks seen cs) = false := by simpa [fastL] using hfast
    cases hf : sts.find? (peelC left) with
    | none =>
      rw [walkP_none hf]
      exact hw
    | some p =>
      have hp := List.find?_some hf
      have hpm := List.mem_of_find?_eq_some hf
      have hm := hl p hpm
      simp only [peelC, Bool.and_eq_true, Bool.not_eq_true', decide_eq_false_iff_not] at hp
      rw [walkP_some hf]
      have hfl : (freeM left p.2).length = size := by rw [freeM_len2 (by omega), hs]
      refine fast_stays hl hcs hfast (n := n) hfl fun c hc => ?_
      have hcb := hcs c hc
      rw [free_at (by omega) (by omega)]
      by_cases hb : p.2.getD c 0 = 45
      · rw [if_pos hb]
        exact hw c hc
      · exfalso
        have hnb : breaks seen cs p = false := by
          have := List.any_eq_false.mp h2.2 p hpm
          simpa using this
        have hcov : c ∈ cs.filter (covC p.2) := List.mem_filter.mpr ⟨hc, by simp only [covC, hb, decide_false, Bool.not_false]⟩
        have hpos : ((cs.filter (covC p.2)).length : Int) > 0 := by
          have := List.length_pos_of_mem hcov
          omega
        have hne : ¬ (((cs.filter (covC p.2)).filter (wrongC p.2 seen)).length : Int) = 0 := by
          intro z
          unfold breaks at hnb
          rw [decide_eq_true hpos, decide_eq_true z] at hnb
          cases hnb
        obtain ⟨c2, hc2⟩ := List.exists_mem_of_length_pos (l := (cs.filter (covC p.2)).filter (wrongC p.2 seen)) (by omega)
        obtain ⟨hc3, hwr⟩ := List.mem_filter.mp hc2
        obtain ⟨hc4, hcv⟩ := List.mem_filter.mp hc3
        have hb2 : ¬ p.2.getD c2 0 = 45 := by simpa [covC] using hcv
        have hw2 : ¬ p.2.getD c2 0 = seen.getD c2 0 := by simpa [wrongC] using hwr
        have hbare : ¬ seen.getD c2 0 = 45 := by
          have := List.any_eq_false.mp h2.1 c2 hc4
          simpa [bareC] using this
        have hlw := hw c2 hc4
        rcases agree_at hp.1 (by omega) (c := c2) (by have := hcs c2 hc4; omega) with q | q | q
        · exact hw2 (by rw [← q, hlw])
        · exact hbare (by rw [← hlw]; exact q)
        · exact hb2 q
end
end Mi

set_option maxHeartbeats 4000000
namespace Mi
open PySem PySem.Spec PyProof.Rows L2 Evl
local macro_rules | `(tactic| walk_at "side") => `(tactic| (first | assumption | omega | exact rfl | decide | (simp only [List.length_cons, List.length_nil, List.length_map, List.length_append, List.length_replicate] <;> omega)))
local macro_rules | `(tactic| walk_at "ro") => `(tactic| (first
  | with_reducible exact ro_I0
  | with_reducible exact ro_1018
  | with_reducible exact ro_neC
  | with_reducible exact ro_eqC
  | with_reducible exact ro_neI
  | with_reducible exact ro_eqI
  | with_reducible exact ro_neB
  | with_reducible exact ro_eqB
  | ((with_reducible apply ro_mod); (walk_at "side"))
  | ((with_reducible apply ro_div) <;> (walk_at "side"))
  | ((with_reducible apply ro_divW) <;> (walk_at "side"))
  | with_reducible exact ro_1012
  | with_reducible exact ro_1015
  | ((with_reducible apply ro_mulL) <;> (walk_at "side"))
  | ((with_reducible apply ro_mulR) <;> (walk_at "side"))
  | ((with_reducible apply ro_addC); (walk_at "side"))
  | ((with_reducible apply ro_ixC) <;> (walk_at "side"))
  | ((with_reducible apply ro_ixI) <;> (walk_at "side"))
  | ((with_reducible apply ro_ixIN) <;> (walk_at "side"))
  | ((with_reducible apply ro_ixT2) <;> (walk_at "side"))
  | ((with_reducible apply ro_ixG) <;> (walk_at "side"))
  | ((with_reducible apply ro_eq); exact rfl)
  | ((with_reducible apply ro_ne); exact rfl)
  | with_reducible exact ro_isN
  | with_reducible exact ro_notN
  | with_reducible exact ro_eqL
  | with_reducible exact ro_neL
  | with_reducible exact ro_eqU
  | ((with_reducible apply ro_cat); (walk_at "side"))
  | with_reducible exact ro_inLi
  | with_reducible exact ro_inNi
  | with_reducible exact ro_inUi
  | ((with_reducible apply ro_inL) <;> (walk_at "side"))
  | ((with_reducible apply ro_inN) <;> (walk_at "side"))
  | ((with_reducible apply ro_inU) <;> (walk_at "side"))))
local macro_rules | `(tactic| walk_at "rc") => `(tactic| (first
  | with_reducible exact rc_int
  | with_reducible exact rc_intB
  | with_reducible exact rc_max2
  | ((with_reducible apply rc_lenC); (walk_at "side"))
  | with_reducible exact rc_lenI
  | with_reducible exact rc_lenT
  | with_reducible exact rc_lenIN
  | with_reducible exact rc_lenTN
  | with_reducible exact rc_lenL
  | with_reducible exact rc_lenN
  | with_reducible exact rc_lenU
  | with_reducible exact rc_listL
  | with_reducible exact rc_listU
  | with_reducible exact rc_tupL
  | with_reducible exact rc_tupN
  | ((with_reducible apply rc_isi_int); decide +kernel)
  | ((with_reducible apply rc_isi_str); decide +kernel)
  | ((with_reducible apply rc_isi_bl); decide +kernel)
  | ((with_reducible apply rc_isi_non); decide +kernel)
  | ((with_reducible apply rc_isi_u); decide +kernel)
  | ((with_reducible apply rc_isi_l); decide +kernel)))
local macro_rules | `(tactic| walk_at "er") => `(tactic| (first
  | ((with_reducible apply er_var); (exact rfl); assumption)
  | ((with_reducible apply er_v); exact rfl)
  | with_reducible exact er_c
  | ((with_reducible apply er_pick); (walk_at "er"); (walk_at "er"); (walk_at "er"))
  | ((with_reducible apply er_op); (walk_at "er"); (walk_at "er"); (walk_at "ro"))
  | ((with_reducible apply er_cb); (walk_at "era"); (walk_at "rc"))
  | ((with_reducible apply er_lst'); (walk_at "era"); (exact rfl); (walk_at "side"))
  | ((with_reducible apply er_tup'); (walk_at "era"); (exact rfl); (walk_at "side"))
  | ((with_reducible apply er_notV); (walk_at "er"))
  | ((with_reducible apply er_andV); (walk_at "er"); (intro _; (walk_at "er")))
  | ((with_reducible apply er_orV); (walk_at "er"); (intro _; (walk_at "er")))
  | ((with_reducible apply er_ite); (walk_at "et"); (intro _; (walk_at "er")); (intro _; (walk_at "er")))))
local macro_rules | `(tactic| walk_at "era") => `(tactic| (first
  | with_reducible exact era_nil
  | ((with_reducible apply era_cons); (walk_at "er"); (walk_at "era"))))
local macro_rules | `(tactic| walk_at "et") => `(tactic| (first
  | ((with_reducible apply et_an); (walk_at "et"); (intro _; (walk_at "et")))
  | ((with_reducible apply et_orr); (walk_at "et"); (intro _; (walk_at "et")))
  | ((with_reducible apply et_nt); (walk_at "et"))
  | ((with_reducible apply et1); (walk_at "er"))
  | ((with_reducible apply et2); (walk_at "er"))))

section
variable {P : Program} {w : World} {K : PySem.W.Frag} {mg : Str → Option Value} {base : Heap}
/-! ### what is left is fast -/
def stuckN (size : Nat) (e : List Nat) : List Nat := (List.range size).filter fun c => !decide (e.getD c 0 = 45)
theorem stuck_mem {size : Nat} {e : List Nat} {c : Nat} : c ∈ stuckN size e ↔ c < size ∧ ¬ e.getD c 0 = 45 := by
  unfold stuckN
  rw [List.mem_filter, List.mem_range]
  simp
theorem agree_no {a b : List Nat} (h : agreeM a b = false) (hl : a.length = b.length) : ∃ c, c < a.length ∧ ¬ a.getD c 0 = b.getD c 0 ∧ ¬ a.getD c 0 = 45 ∧ ¬ b.getD c 0 = 45 := by
  obtain ⟨q, hq, hok⟩ := List.all_eq_false.mp h
  obtain ⟨i, hi, rfl⟩ := List.getElem_of_mem hq
  have hia : i < a.length := by
    rw [List.length_zip] at hi
    omega
  have h1 : a[i]? = some a[i] := List.getElem?_eq_getElem hia
  have h2 : b[i]? = some b[i] := List.getElem?_eq_getElem (by omega)
  rw [List.getElem_zip] at hok
  refine ⟨i, hia, ?_⟩
  rw [List.getD_eq_getElem?_getD, List.getD_eq_getElem?_getD, h1, h2]
  simpa [okP] using hok
theorem stuck_fast {sts : List (List Nat × List Nat)} {size n : Nat} {seen : List Nat} (hl : ∀ p ∈ sts, p.2.length = size) (hs : seen.length = size) (hn : marksN seen ≤ n) : fastL sts seen (stuckN size (walkP sts n seen).2) = true := by
  obtain ⟨w1, w2, w3⟩ := walkP_end hl hs hn
  generalize (walkP sts n seen).2 = e at *
  have same : ∀ c ∈ stuckN size e, c < size ∧ e.getD c 0 = seen.getD c 0 ∧ ¬ e.getD c 0 = 45 := fun c hc => by
    obtain ⟨h1, h2⟩ := stuck_mem.mp hc
    rcases w2 c h1 with h | h
    · exact absurd h h2
    · exact ⟨h1, h, h2⟩
  unfold fastL
  rw [Bool.and_eq_true, Bool.not_eq_true', Bool.not_eq_true', List.any_eq_false, List.any_eq_false]
  refine ⟨fun c hc => ?_, fun p hp => ?_⟩
  · obtain ⟨h1, h2, h3⟩ := same c hc
    unfold bareC
    rw [← h2]
    simpa using h3
  · intro hb
    unfold breaks at hb
    rw [Bool.and_eq_true, decide_eq_true_eq, decide_eq_true_eq] at hb
    obtain ⟨hpos, hz⟩ := hb
    have hlp := hl p hp
    obtain ⟨c, hc⟩ := List.exists_mem_of_length_pos (l := (stuckN size e).filter (covC p.2)) (by omega)
    obtain ⟨hc1, hc2⟩ := List.mem_filter.mp hc
    obtain ⟨h1, h2, h3⟩ := same c hc1
    have hcv : ¬ p.2.getD c 0 = 45 := by simpa [covC] using hc2
    have hpk : peelC e p = false := by
      have := List.find?_eq_none.mp w3 p hp
      simpa using this
    have hfe : ¬ freeM e p.2 = e := by
      intro z
      have q := free_at (a := e) (b := p.2) (by omega) (c := c) (by omega)
      rw [z, if_neg hcv] at q
      exact h3 q
    have hag : agreeM e p.2 = false := by
      unfold peelC at hpk
      rw [decide_eq_false hfe, Bool.not_false, Bool.and_true] at hpk
      exact hpk
    obtain ⟨c2, k1, k2, k3, k4⟩ := agree_no hag (by omega)
    have hm2 : c2 ∈ stuckN size e := stuck_mem.mpr ⟨by omega, k3⟩
    obtain ⟨_, j2, _⟩ := same c2 hm2
    have hw : c2 ∈ ((stuckN size e).filter (covC p.2)).filter (wrongC p.2 seen) := List.mem_filter.mpr ⟨List.mem_filter.mpr ⟨hm2, by simpa [covC] using k4⟩, by
      unfold wrongC
      rw [← j2, decide_eq_false (fun z => k2 z.symm)]
      rfl⟩
    have := List.length_pos_of_mem hw
    omega
/-! ### the row of a making leads there -/
structure FitsP (size : Nat) (sheet layer : List Nat) : Prop where
  l : sheet.length = size
  m : ∀ c < size, ¬ sheet.getD c 0 = 45
  f : ∀ c < size, layer.getD c 0 = 45 ∨ sheet.getD c 0 = layer.getD c 0
theorem walkP_leads {sts : List (List Nat × List Nat)} {size : Nat} (hl : ∀ p ∈ sts, p.2.length = size) (hd : (sts.map (·.1)).Nodup) : ∀ {n : Nat} {left sheet : List Nat}, left.length = size → FitsP size sheet (walkP sts n left).2 → FitsP size (pressAll sts sheet (walkP sts n left).1.reverse) left
  | 0, left, sheet, hs, h => h
  | n + 1, left, sheet, hs, h => by
    cases hf : sts.find? (peelC left) with
    | none =>
      rw [walkP_none hf] at h ⊢
      exact h
    | some p =>
      have hp := List.find?_some hf
      have hpm := List.mem_of_find?_eq_some hf
      have hm := hl p hpm
      simp only [peelC, Bool.and_eq_true, Bool.not_eq_true', decide_eq_false_iff_not] at hp
      rw [walkP_some hf] at h ⊢
      have hfl : (freeM left p.2).length = size := by rw [freeM_len2 (by omega), hs]
      have ih := walkP_leads hl hd (n := n) hfl h
      have e : pressAll sts sheet (p.1 :: (walkP sts n (freeM left p.2)).1).reverse = pressM (pressAll sts sheet (walkP sts n (freeM left p.2)).1.reverse) p.2 := by
        unfold pressAll
        rw [List.reverse_cons, List.foldl_append]
        show pressM _ (stampOf sts p.1) = _
        rw [stampOf_first hd hpm]
      show FitsP size (pressAll sts sheet (p.1 :: (walkP sts n (freeM left p.2)).1).reverse) left
      rw [e]
      generalize pressAll sts sheet (walkP sts n (freeM left p.2)).1.reverse = sh at ih
      have hsl := ih.l
      refine ⟨by rw [pressM_len (by omega), hsl], fun c hc => ?_, fun c hc => ?_⟩
      · rw [press_at (by omega) (by omega)]
        by_cases hb : p.2.getD c 0 = 45
        · rw [if_pos hb]
          exact ih.m c hc
        · rw [if_neg hb]
          exact hb
      · rw [press_at (by omega) (by omega)]
        by_cases hb : p.2.getD c 0 = 45
        · rw [if_pos hb]
          have q := ih.f c hc
          rw [free_at (by omega) (by omega), if_pos hb] at q
          exact q
        · rw [if_neg hb]
          rcases agree_at hp.1 (by omega) (c := c) (by omega) with q | q | q
          · exact .inr q.symm
          · exact .inl q
          · exact absurd q hb
end
end Mi

set_option maxHeartbeats 4000000
namespace Mi
open PySem PySem.Spec PyProof.Rows L2 Evl
local macro_rules | `(tactic| walk_at "side") => `(tactic| (first | assumption | omega | exact rfl | decide | (simp only [List.length_cons, List.length_nil, List.length_map, List.length_append, List.length_replicate] <;> omega)))
local macro_rules | `(tactic| walk_at "ro") => `(tactic| (first
  | with_reducible exact ro_I0
  | with_reducible exact ro_1018
  | with_reducible exact ro_neC
  | with_reducible exact ro_eqC
  | with_reducible exact ro_neI
  | with_reducible exact ro_eqI
  | with_reducible exact ro_neB
  | with_reducible exact ro_eqB
  | ((with_reducible apply ro_mod); (walk_at "side"))
  | ((with_reducible apply ro_div) <;> (walk_at "side"))
  | ((with_reducible apply ro_divW) <;> (walk_at "side"))
  | with_reducible exact ro_1012
  | with_reducible exact ro_1015
  | ((with_reducible apply ro_mulL) <;> (walk_at "side"))
  | ((with_reducible apply ro_mulR) <;> (walk_at "side"))
  | ((with_reducible apply ro_addC); (walk_at "side"))
  | ((with_reducible apply ro_ixC) <;> (walk_at "side"))
  | ((with_reducible apply ro_ixI) <;> (walk_at "side"))
  | ((with_reducible apply ro_ixIN) <;> (walk_at "side"))
  | ((with_reducible apply ro_ixT2) <;> (walk_at "side"))
  | ((with_reducible apply ro_ixG) <;> (walk_at "side"))
  | ((with_reducible apply ro_eq); exact rfl)
  | ((with_reducible apply ro_ne); exact rfl)
  | with_reducible exact ro_isN
  | with_reducible exact ro_notN
  | with_reducible exact ro_eqL
  | with_reducible exact ro_neL
  | with_reducible exact ro_eqU
  | ((with_reducible apply ro_cat); (walk_at "side"))
  | with_reducible exact ro_inLi
  | with_reducible exact ro_inNi
  | with_reducible exact ro_inUi
  | ((with_reducible apply ro_inL) <;> (walk_at "side"))
  | ((with_reducible apply ro_inN) <;> (walk_at "side"))
  | ((with_reducible apply ro_inU) <;> (walk_at "side"))))
local macro_rules | `(tactic| walk_at "rc") => `(tactic| (first
  | with_reducible exact rc_int
  | with_reducible exact rc_intB
  | with_reducible exact rc_max2
  | ((with_reducible apply rc_lenC); (walk_at "side"))
  | with_reducible exact rc_lenI
  | with_reducible exact rc_lenT
  | with_reducible exact rc_lenIN
  | with_reducible exact rc_lenTN
  | with_reducible exact rc_lenL
  | with_reducible exact rc_lenN
  | with_reducible exact rc_lenU
  | with_reducible exact rc_listL
  | with_reducible exact rc_listU
  | with_reducible exact rc_tupL
  | with_reducible exact rc_tupN
  | ((with_reducible apply rc_isi_int); decide +kernel)
  | ((with_reducible apply rc_isi_str); decide +kernel)
  | ((with_reducible apply rc_isi_bl); decide +kernel)
  | ((with_reducible apply rc_isi_non); decide +kernel)
  | ((with_reducible apply rc_isi_u); decide +kernel)
  | ((with_reducible apply rc_isi_l); decide +kernel)))
local macro_rules | `(tactic| walk_at "er") => `(tactic| (first
  | ((with_reducible apply er_var); (exact rfl); assumption)
  | ((with_reducible apply er_v); exact rfl)
  | with_reducible exact er_c
  | ((with_reducible apply er_pick); (walk_at "er"); (walk_at "er"); (walk_at "er"))
  | ((with_reducible apply er_op); (walk_at "er"); (walk_at "er"); (walk_at "ro"))
  | ((with_reducible apply er_cb); (walk_at "era"); (walk_at "rc"))
  | ((with_reducible apply er_lst'); (walk_at "era"); (exact rfl); (walk_at "side"))
  | ((with_reducible apply er_tup'); (walk_at "era"); (exact rfl); (walk_at "side"))
  | ((with_reducible apply er_notV); (walk_at "er"))
  | ((with_reducible apply er_andV); (walk_at "er"); (intro _; (walk_at "er")))
  | ((with_reducible apply er_orV); (walk_at "er"); (intro _; (walk_at "er")))
  | ((with_reducible apply er_ite); (walk_at "et"); (intro _; (walk_at "er")); (intro _; (walk_at "er")))))
local macro_rules | `(tactic| walk_at "era") => `(tactic| (first
  | with_reducible exact era_nil
  | ((with_reducible apply era_cons); (walk_at "er"); (walk_at "era"))))
local macro_rules | `(tactic| walk_at "et") => `(tactic| (first
  | ((with_reducible apply et_an); (walk_at "et"); (intro _; (walk_at "et")))
  | ((with_reducible apply et_orr); (walk_at "et"); (intro _; (walk_at "et")))
  | ((with_reducible apply et_nt); (walk_at "et"))
  | ((with_reducible apply et1); (walk_at "er"))
  | ((with_reducible apply et2); (walk_at "er"))))

section
variable {P : Program} {w : World} {K : PySem.W.Frag} {mg : Str → Option Value} {base : Heap}
/-! ### the law's walk and the program's are one -/
theorem agree_comm {a b : List Nat} (hl : a.length = b.length) : agreeM a b = agreeM b a := by
  cases h1 : agreeM a b with
  | true =>
    cases h2 : agreeM b a with
    | true => rfl
    | false =>
      obtain ⟨c, k1, k2, k3, k4⟩ := agree_no h2 hl.symm
      rcases agree_at h1 hl (c := c) (by omega) with q | q | q
      · exact absurd q.symm k2
      · exact absurd q k4
      · exact absurd q k3
  | false =>
    cases h2 : agreeM b a with
    | false => rfl
    | true =>
      obtain ⟨c, k1, k2, k3, k4⟩ := agree_no h1 hl
      rcases agree_at h2 hl.symm (c := c) (by omega) with q | q | q
      · exact absurd q.symm k2
      · exact absurd q k4
      · exact absurd q k3
theorem peelL_C {stay : List Nat} {p : List Nat × List Nat} (hl : p.2.length = stay.length) : peelL stay p = peelC stay p := by
  unfold peelL peelC
  rw [agree_comm hl]
theorem find_idx {sts : List (List Nat × List Nat)} {stay : List Nat} (hl : ∀ p ∈ sts, p.2.length = stay.length) : sts.find? (peelC stay) = (sts.findIdx? (peelL stay)).map fun k => sts.getD k ([], []) := by
  cases hf : sts.findIdx? (peelL stay) with
  | none =>
    have := List.findIdx?_eq_none_iff.mp hf
    show _ = none
    rw [List.find?_eq_none]
    intro p hp
    rw [← peelL_C (hl p hp), this p hp]
    exact Bool.false_ne_true
  | some k =>
    obtain ⟨hk, h1, h2⟩ := List.findIdx?_eq_some_iff_getElem.mp hf
    show _ = some (sts.getD k ([], []))
    rw [List.getD_eq_getElem?_getD, List.getElem?_eq_getElem hk]
    show sts.find? (peelC stay) = some sts[k]
    rw [List.find?_eq_some_iff_getElem]
    refine ⟨by rw [← peelL_C (hl _ (List.getElem_mem hk))]; exact h1, k, hk, rfl, fun j hj => ?_⟩
    have := h2 j hj
    rw [peelL_C (hl _ (List.getElem_mem (by omega)))] at this
    simpa using this
theorem walk_alike {sts : List (List Nat × List Nat)} {size : Nat} (hl : ∀ p ∈ sts, p.2.length = size) : ∀ {n : Nat} {left : List Nat}, left.length = size → (walkP sts n left).1 = (walkM sts n left).1.map (fun k => (sts.getD k ([], [])).1) ∧ (walkP sts n left).2 = (walkM sts n left).2
  | 0, left, _ => ⟨rfl, rfl⟩
  | n + 1, left, hs => by
    have hfi := find_idx (sts := sts) (stay := left) fun p hp => by rw [hl p hp, hs]
    cases hf : sts.findIdx? (peelL left) with
    | none =>
      rw [hf] at hfi
      rw [walk_none hf, walkP_none hfi]
      exact ⟨rfl, rfl⟩
    | some k =>
      rw [hf] at hfi
      have hfi : sts.find? (peelC left) = some (sts.getD k ([], [])) := hfi
      have hm := hl _ (List.mem_of_find?_eq_some hfi)
      obtain ⟨i1, i2⟩ := walk_alike hl (n := n) (left := freeM left (sts.getD k ([], [])).2) (by rw [freeM_len2 (by omega), hs])
      rw [walk_some hf, walkP_some hfi]
      exact ⟨by rw [List.map_cons, i1], i2⟩
/-! ### no stamp is peeled off twice -/
def actN (sts : List (List Nat × List Nat)) (left : List Nat) : Nat := (sts.filter fun p => !decide (freeM left p.2 = left)).length
theorem free_id {a b : List Nat} (hl : a.length = b.length) : freeM a b = a ↔ ∀ c < a.length, b.getD c 0 = 45 ∨ a.getD c 0 = 45 := by
  constructor
  · intro h c hc
    have q := free_at hl hc
    rw [h] at q
    by_cases hb : b.getD c 0 = 45
    · exact .inl hb
    · rw [if_neg hb] at q
      exact .inr q
  · intro h
    apply List.ext_getElem (freeM_len2 hl)
    intro i h1 h2
    have q := free_at hl (c := i) h2
    have e1 : (freeM a b).getD i 0 = (freeM a b)[i] := by rw [List.getD_eq_getElem?_getD, List.getElem?_eq_getElem h1]; rfl
    have e2 : a.getD i 0 = a[i] := by rw [List.getD_eq_getElem?_getD, List.getElem?_eq_getElem h2]; rfl
    rw [← e1, ← e2, q]
    rcases h i h2 with k | k
    · rw [if_pos k]
    · by_cases hb : b.getD i 0 = 45
      · rw [if_pos hb]
      · rw [if_neg hb, k]
theorem act_less {sts : List (List Nat × List Nat)} {size : Nat} (hl : ∀ p ∈ sts, p.2.length = size) {left : List Nat} (hs : left.length = size) {p : List Nat × List Nat} (hpm : p ∈ sts) (hne : ¬ freeM left p.2 = left) : actN sts (freeM left p.2) < actN sts left := by
  have hm := hl p hpm
  have hfl : (freeM left p.2).length = size := by rw [freeM_len2 (by omega), hs]
  have imp : ∀ q ∈ sts, freeM left q.2 = left → freeM (freeM left p.2) q.2 = freeM left p.2 := fun q hq h => by
    have hq2 := hl q hq
    rw [free_id (by omega)]
    intro c hc
    rcases (free_id (by omega)).mp h c (by omega) with k | k
    · exact .inl k
    · right
      rw [free_at (by omega) (by omega)]
      by_cases hb : p.2.getD c 0 = 45
      · rw [if_pos hb]; exact k
      · rw [if_neg hb]
  have self : freeM (freeM left p.2) p.2 = freeM left p.2 := by
    rw [free_id (by omega)]
    intro c hc
    rw [free_at (by omega) (by omega)]
    by_cases hb : p.2.getD c 0 = 45
    · exact .inl hb
    · right
      rw [if_neg hb]
  unfold actN
  have sub : ∀ l : List (List Nat × List Nat), (∀ q ∈ l, q ∈ sts) → (l.filter fun q => !decide (freeM (freeM left p.2) q.2 = freeM left p.2)).length ≤ (l.filter fun q => !decide (freeM left q.2 = left)).length ∧ (p ∈ l → (l.filter fun q => !decide (freeM (freeM left p.2) q.2 = freeM left p.2)).length < (l.filter fun q => !decide (freeM left q.2 = left)).length) := by
    intro l
    induction l with
    | nil => intro _; exact ⟨Nat.le_refl _, fun h => by cases h⟩
    | cons q r ih =>
      intro hq
      obtain ⟨i1, i2⟩ := ih fun x hx => hq x (List.mem_cons_of_mem _ hx)
      have hqs := hq q (List.mem_cons_self ..)
      rw [List.filter_cons, List.filter_cons]
      by_cases h1 : freeM left q.2 = left
      · have h2 := imp q hqs h1
        simp only [h1, h2, decide_true, Bool.not_true, Bool.false_eq_true, if_false]
        refine ⟨i1, fun hm2 => ?_⟩
        rcases List.mem_cons.mp hm2 with z | z
        · rw [z] at hne
          exact absurd h1 hne
        · exact i2 z
      · by_cases h2 : freeM (freeM left p.2) q.2 = freeM left p.2
        · simp only [h1, h2, decide_true, decide_false, Bool.not_true, Bool.not_false, Bool.false_eq_true, if_false, if_true, List.length_cons]
          exact ⟨by omega, fun _ => by omega⟩
        · simp only [h1, h2, decide_false, Bool.not_false, if_true, List.length_cons]
          refine ⟨by omega, fun hm2 => ?_⟩
          rcases List.mem_cons.mp hm2 with z | z
          · rw [← z] at h2
            exact absurd self h2
          · have := i2 z
            omega
  exact (sub sts fun q hq => hq).2 hpm
/-- as many turns as there are stamps are enough -/
theorem walkP_few {sts : List (List Nat × List Nat)} {size : Nat} (hl : ∀ p ∈ sts, p.2.length = size) : ∀ {n : Nat} {left : List Nat}, left.length = size → actN sts left ≤ n → walkP sts n left = walkP sts (marksN left) left
  | 0, left, hs, h => by
    cases hf : sts.find? (peelC left) with
    | none => rw [walkP_none hf, walkP_none hf]
    | some p =>
      have hp := List.find?_some hf
      have hpm := List.mem_of_find?_eq_some hf
      simp only [peelC, Bool.and_eq_true, Bool.not_eq_true', decide_eq_false_iff_not] at hp
      have := act_less hl hs hpm hp.2
      omega
  | n + 1, left, hs, h => by
    cases hf : sts.find? (peelC left) with
    | none => rw [walkP_none hf, walkP_none hf]
    | some p =>
      have hp := List.find?_some hf
      have hpm := List.mem_of_find?_eq_some hf
      have hm := hl p hpm
      simp only [peelC, Bool.and_eq_true, Bool.not_eq_true', decide_eq_false_iff_not] at hp
      have hlt := act_less hl hs hpm hp.2
      have hml := (free_marks (a := left) (b := p.2) (by omega)).2 hp.2
      have hfl : (freeM left p.2).length = size := by rw [freeM_len2 (by omega), hs]
      obtain ⟨k, hk⟩ : ∃ k, marksN left = k + 1 := ⟨marksN left - 1, by omega⟩
      rw [hk, walkP_some hf, walkP_some hf, walkP_few hl (n := n) hfl (by omega), walkP_enough hl (n := k) (m := marksN (freeM left p.2)) hfl (by omega) (Nat.le_refl _)]
theorem walk_law {sts : List (List Nat × List Nat)} {size : Nat} (hl : ∀ p ∈ sts, p.2.length = size) {left : List Nat} (hs : left.length = size) : walkP sts (sts.length + 1) left = walkP sts (marksN left) left :=
  walkP_few hl hs (Nat.le_succ_of_le (List.length_filter_le _ _))
end
end Mi

set_option maxHeartbeats 4000000
namespace Mi
open PySem PySem.Spec PyProof.Rows L2 Evl
local macro_rules | `(tactic| walk_at "side") => `(tactic| (first | assumption | omega | exact rfl | decide | (simp only [List.length_cons, List.length_nil, List.length_map, List.length_append, List.length_replicate] <;> omega)))
local macro_rules | `(tactic| walk_at "ro") => `(tactic| (first
  | with_reducible exact ro_I0
  | with_reducible exact ro_1018
  | with_reducible exact ro_neC
  | with_reducible exact ro_eqC
  | with_reducible exact ro_neI
  | with_reducible exact ro_eqI
  | with_reducible exact ro_neB
  | with_reducible exact ro_eqB
  | ((with_reducible apply ro_mod); (walk_at "side"))
  | ((with_reducible apply ro_div) <;> (walk_at "side"))
  | ((with_reducible apply ro_divW) <;> (walk_at "side"))
  | with_reducible exact ro_1012
  | with_reducible exact ro_1015
  | ((with_reducible apply ro_mulL) <;> (walk_at "side"))
  | ((with_reducible apply ro_mulR) <;> (walk_at "side"))
  | ((with_reducible apply ro_addC); (walk_at "side"))
  | ((with_reducible apply ro_ixC) <;> (walk_at "side"))
  | ((with_reducible apply ro_ixI) <;> (walk_at "side"))
  | ((with_reducible apply ro_ixIN) <;> (walk_at "side"))
  | ((with_reducible apply ro_ixT2) <;> (walk_at "side"))
  | ((with_reducible apply ro_ixG) <;> (walk_at "side"))
  | ((with_reducible apply ro_eq); exact rfl)
  | ((with_reducible apply ro_ne); exact rfl)
  | with_reducible exact ro_isN
  | with_reducible exact ro_notN
  | with_reducible exact ro_eqL
  | with_reducible exact ro_neL
  | with_reducible exact ro_eqU
  | ((with_reducible apply ro_cat); (walk_at "side"))
  | with_reducible exact ro_inLi
  | with_reducible exact ro_inNi
  | with_reducible exact ro_inUi
  | ((with_reducible apply ro_inL) <;> (walk_at "side"))
  | ((with_reducible apply ro_inN) <;> (walk_at "side"))
  | ((with_reducible apply ro_inU) <;> (walk_at "side"))))
local macro_rules | `(tactic| walk_at "rc") => `(tactic| (first
  | with_reducible exact rc_int
  | with_reducible exact rc_intB
  | with_reducible exact rc_max2
  | ((with_reducible apply rc_lenC); (walk_at "side"))
  | with_reducible exact rc_lenI
  | with_reducible exact rc_lenT
  | with_reducible exact rc_lenIN
  | with_reducible exact rc_lenTN
  | with_reducible exact rc_lenL
  | with_reducible exact rc_lenN
  | with_reducible exact rc_lenU
  | with_reducible exact rc_listL
  | with_reducible exact rc_listU
  | with_reducible exact rc_tupL
  | with_reducible exact rc_tupN
  | ((with_reducible apply rc_isi_int); decide +kernel)
  | ((with_reducible apply rc_isi_str); decide +kernel)
  | ((with_reducible apply rc_isi_bl); decide +kernel)
  | ((with_reducible apply rc_isi_non); decide +kernel)
  | ((with_reducible apply rc_isi_u); decide +kernel)
  | ((with_reducible apply rc_isi_l); decide +kernel)))
local macro_rules | `(tactic| walk_at "er") => `(tactic| (first
  | ((with_reducible apply er_var); (exact rfl); assumption)
  | ((with_reducible apply er_v); exact rfl)
  | with_reducible exact er_c
  | ((with_reducible apply er_pick); (walk_at "er"); (walk_at "er"); (walk_at "er"))
  | ((with_reducible apply er_op); (walk_at "er"); (walk_at "er"); (walk_at "ro"))
  | ((with_reducible apply er_cb); (walk_at "era"); (walk_at "rc"))
  | ((with_reducible apply er_lst'); (walk_at "era"); (exact rfl); (walk_at "side"))
  | ((with_reducible apply er_tup'); (walk_at "era"); (exact rfl); (walk_at "side"))
  | ((with_reducible apply er_notV); (walk_at "er"))
  | ((with_reducible apply er_andV); (walk_at "er"); (intro _; (walk_at "er")))
  | ((with_reducible apply er_orV); (walk_at "er"); (intro _; (walk_at "er")))
  | ((with_reducible apply er_ite); (walk_at "et"); (intro _; (walk_at "er")); (intro _; (walk_at "er")))))
local macro_rules | `(tactic| walk_at "era") => `(tactic| (first
  | with_reducible exact era_nil
  | ((with_reducible apply era_cons); (walk_at "er"); (walk_at "era"))))
local macro_rules | `(tactic| walk_at "et") => `(tactic| (first
  | ((with_reducible apply et_an); (walk_at "et"); (intro _; (walk_at "et")))
  | ((with_reducible apply et_orr); (walk_at "et"); (intro _; (walk_at "et")))
  | ((with_reducible apply et_nt); (walk_at "et"))
  | ((with_reducible apply et1); (walk_at "er"))
  | ((with_reducible apply et2); (walk_at "er"))))

section
variable {K : PySem.W.Frag} {σ : L2.St} {G H : Hp} {te tl : TE} {tr : TA} {d : Dd} {ds : List Dd} {tu tz : TS} {D : Ends}
theorem er_revT (h : Er K te σ H (.U ds)) : Er K (tRevT K te) σ H (.U ds.reverse) := fun H1 e1 Q q =>
  h H1 e1 _ fun v H2 e2 ⟨p, vs, ev, hp, hE⟩ => ⟨p, vs, ev, hp, fun l hl => q _ _ (e2.trans (Ex.new hl)) ⟨l, vs.reverse, rfl, st_of upd_same, IsE.mono (Ex.new hl) (isE_rev hE)⟩⟩
/-- a loop over a tuple, its items of any kind -/
theorem b_forUd {j : Nat} (h : Er K tl σ H (.U ds)) (Pv : Nat → L2.St → Hp → Prop) (h0 : ∀ H1, Ex H H1 → Pv 0 σ H1)
    (hs : ∀ H1, Ex H H1 → ∀ i d v σ' H', ds[i]? = some d → (∀ H2, Ex H1 H2 → Is K H2 d v) → Pv i σ' H' → Ex H1 H' → tu { D with nx := fun σ2 H2 => Pv (i + 1) σ2 H2 ∧ Ex H1 H2, ct := fun σ2 H2 => Pv (i + 1) σ2 H2 ∧ Ex H1 H2, bk := tz D } (σ'.set j (some v)) H')
    (hd : ∀ σ' H', Ex H H' → Pv ds.length σ' H' → tz D σ' H') : tSeq (tFor (iTup K tl) (gName j) tu) tz D σ H :=
  h H (Ex.refl H) _ fun v H1 e1 ⟨p, vs, ep, hp, hE⟩ => by
    subst ep
    have z := isE_all.mp hE
    have len := z.len
    refine ⟨p, rfl, ⟨vs, hp⟩, ?_⟩
    refine for_tup (D := { D with nx := tz D }) (xs := vs) (fun i σ' H' => Pv i σ' H' ∧ Ex H1 H') ⟨h0 _ e1, Ex.refl _⟩ (fun i σ' H' _ q => ex_t q.2 hp) (fun i v σ' H' hv q => ?_) fun σ' H' q => hd σ' H' (e1.trans q.2) (by rw [len]; exact q.1)
    obtain ⟨d, hd', hi⟩ := isAll_at z hv
    exact hs _ e1 i d v σ' H' hd' (fun H2 e3 => hi.mono e3) q.1 q.2
theorem er_makeM {C : Addr} {made : Bool} {dr dc : Dd} {cell : V} (h : Era K tr σ H [.b made, dr, dc, .v cell]) : Er K (tMake C (spInitM K C) [] E0 tr) σ H (makO K C made dr dc cell) := fun H1 e Q q =>
  h H1 e _ fun vs H2 e2 z => by
    rcases z with _ | ⟨z1, _ | ⟨z2, _ | ⟨z3, _ | ⟨z4, _ | _⟩⟩⟩⟩
    rename_i v1 v2 v3 v4
    obtain rfl : v1 = V.bl made := z1
    obtain rfl : v4 = cell := z4
    intro x dx hx hdx ne
    refine ⟨x, made, dr, dc, v2, v3, v4, rfl, dx, H2, H2, Ex.refl _, ?_, hx, upd_same, z2, z3, fun G' A' s hv => ⟨rfl, q _ A' (e2.trans s.a) (hv.mono s.v)⟩⟩
    exact (Ex.new hdx).trans (Ex.new (by rw [upd_ne (Ne.symm ne)]; exact hx))
end
section
variable {P : Program} {w : World} {K : PySem.W.Frag} {mg : Str → Option Value} {base : Heap}
/-! ### making -/
theorem cells_stuck (e : List Nat) : vis (cellsM e) = cvs (stuckN e.length e) := by
  unfold cellsM cvs stuckN
  rw [zipIdx_range, List.filter_map, vis, List.map_map, List.map_map]
  rfl
abbrev s_making : Stmt := topS 38
theorem sc_making : FnScope ["stock", "start", "seen", "end", "cell"] ["stock", "start", "seen"] (defScope s_making) := ⟨rfl, rfl, rfl, by decide +kernel, rfl, by decide +kernel, by decide +kernel⟩

abbrev rowOf (sts : List (List Nat × List Nat)) (seen : List Nat) : List (List Nat) := (walkP sts (marksN seen) seen).1
abbrev leftOf (sts : List (List Nat × List Nat)) (seen : List Nat) : List Nat := (walkP sts (marksN seen) seen).2
def clash (sts : List (List Nat × List Nat)) (start seen : List Nat) : Option Nat := (stuckN seen.length (leftOf sts seen)).find? (mdC start (leftOf sts seen))
def madC (K : PySem.W.Frag) (CM : Addr) (row : List (List Nat)) (stuck : List Nat) : Option Nat → Dd
  | some c => makO K CM false (.v .non) (.u (cvs stuck)) (.int (c : Int))
  | none => makO K CM true (.U (row.reverse.map fun l => Dd.s (S l))) (.u []) .non
abbrev stuckOf (sts : List (List Nat × List Nat)) (seen : List Nat) : List Nat := stuckN seen.length (leftOf sts seen)
def madD (K : PySem.W.Frag) (CM : Addr) (sts : List (List Nat × List Nat)) (start seen : List Nat) : Dd := madC K CM (rowOf sts seen) (stuckOf sts seen) (clash sts start seen)
structure SceneP (size : Nat) (sts : List (List Nat × List Nat)) (start seen : List Nat) : Prop where
  st : StockOk size sts
  sl : start.length = size
  el : seen.length = size
  nm : ∀ p ∈ sts, okT p.1
abbrev sp_making (K : PySem.W.Frag) (C CM : Addr) : Sp := spR K (fun a : (Nat × List (List Nat × List Nat)) × List Nat × List Nat => SceneP a.2.2.length a.1.2 a.2.1 a.2.2) (fun a => [stockC K C (a.1.1 : Int) a.1.2, .s (S a.2.1), .s (S a.2.2)]) fun a => madD K CM a.1.2 a.2.1 a.2.2
theorem fn_making {C CP CM fM : Addr} {fdM : FuncData} (T : Txt K mg) (TP : PeTxt K mg CP) (TM : MkTxt K mg CM) {f : Addr} {fd : FuncData} (F : Fun K "making" "making" s_making f fd) (C_peeling : Has P w K mg base 3 "peeling" ["stock", "seen"] (sp_peeling K C CP)) (C_cells_of : Has P w K mg base 1 "cells_of" ["one"] (sp_cells K)) (C_marks_differ : Has P w K mg base 1 "marks_differ" ["one", "two", "cell"] (sp_marks K)) (M_initM : Mk K CM fM) (F_initM : FnOk P w K mg base CX0 1 fM fdM ["self", "made", "row", "cells", "cell"] (spInitM K CM)) (b_initM : Binds K fdM ["self", "made", "row", "cells", "cell"] []) : FnOk P w K mg base CX0 4 f fd ["stock", "start", "seen"] (sp_making K C CM) := by
  refine Fun.okR F sc_making (fun _ => rfl) fun cdv A outer s H a vs Q E hr hp hv hk => ?_
  obtain ⟨⟨n, sts⟩, start, seen⟩ := a
  replace hp : SceneP seen.length sts start seen := hp
  rcases hv with _ | ⟨hx, _ | ⟨rfl, _ | ⟨rfl, _ | _⟩⟩⟩
  rename_i vst
  replace hx : Is K H (stockC K C (n : Int) sts) vst := hx
  have sc := sc_making
  have sl := hp.sl
  have lot := hp.st.lot
  have sz := lot.sz
  have w1 : (leftOf sts seen).length = seen.length := (walkP_end lot.st (n := marksN seen) (left := seen) rfl (Nat.le_refl _)).1
  refine ⟨_, (pss_cons (ps_set (i := 3) sc.nd rfl (Or.inl rfl) (pe_callH C_peeling (hr.mono (by decide)) (pa_cons (pv 0) (pa_cons (pv 2) pa_nil))))
    (pss_cons (ps_for PassesOwn.never rfl (pi_tup_k (K := K) (pe_callH C_cells_of (hr.mono (by decide)) (pa_cons (pe_fld (pv 3) rfl) pa_nil))) (pg_name (i := 4) sc.nd rfl (Or.inl rfl)) (pss_one (ps_if (pt_val (pe_callH C_marks_differ (hr.mono (by decide)) (pa_cons (pv 1) (pa_cons (pe_fld (pv 3) rfl) (pa_cons (pv 4) pa_nil))))) (pss_one (ps_ret (pe_make M_initM F_initM (hr.mono (by decide)) (by rfl) TM.mgC b_initM .nil pass0 (pa_cons pe_bl (pa_cons pe_non (pa_cons (pe_callH C_cells_of (hr.mono (by decide)) (pa_cons (pe_fld (pv 3) rfl) pa_nil)) (pa_cons (pv 4) pa_nil))))))) pss_nil)))
    (pss_one (ps_ret (pe_make M_initM F_initM (hr.mono (by decide)) (by rfl) TM.mgC b_initM .nil pass0 (pa_cons pe_bl (pa_cons (pe_revT_k (K := K) (pe_fld (pv 3) rfl)) (pa_cons (pe_tup pa_nil) (pa_cons pe_non pa_nil))))))))), ?_⟩
  have hk : ∀ v H', Ex H H' → Is K H' (madC K CM (rowOf sts seen) (stuckN seen.length (leftOf sts seen)) (clash sts start seen)) v → Q v H' := hk
  have hc : clash sts start seen = (stuckN seen.length (leftOf sts seen)).find? (mdC start (leftOf sts seen)) := rfl
  refine a_asg (K := K) (d := peelO K CP seen (rowOf sts seen) (leftOf sts seen)) (er_callF (n, sts, seen) (era_cons (er_var rfl hx) (era_cons (er_v rfl) era_nil)) rfl hp.st) fun v1 H1 e1 h1 => ?_
  have hcs : vis (cellsM (leftOf sts seen)) = cvs (stuckN seen.length (leftOf sts seen)) := by rw [cells_stuck, w1]
  have hleft : ∀ {σ : L2.St} {H' : Hp}, Ex H1 H' → σ[3]? = some (some v1) → Er K (tFld K (tVar 3) "left") σ H' (.s (S (leftOf sts seen))) := fun {σ H'} e q => er_left TP.cl TP.nL (er_var q (h1.mono e))
  have hcell : ∀ {σ : L2.St} {H' : Hp}, Ex H1 H' → σ[3]? = some (some v1) → Er K (tCall (sp_cells K) [] E0 (tCons (tFld K (tVar 3) "left") tNil)) σ H' (.u (cvs (stuckN seen.length (leftOf sts seen)))) := fun {σ H'} e q => Er.to (er_call (leftOf sts seen) (era_cons (hleft e q) era_nil) rfl (by show (leftOf sts seen).length ≤ 1000; omega)) (by rw [hcs])
  have hmem : ∀ c ∈ stuckN seen.length (leftOf sts seen), c < seen.length := fun c hc => (stuck_mem.mp hc).1
  generalize leftOf sts seen = left at *
  generalize rowOf sts seen = row at *
  generalize hst : stuckN seen.length left = stuck at *
  refine b_forUd (K := K) (ds := (cvs stuck).map Dd.v) (j := 4) (Er.as (hcell (Ex.refl _) rfl) fun _ _ z => z.u2U) (fun i σ' H' => ∃ y, σ' = [some vst, some (.str (S start)), some (.str (S seen)), some v1, y] ∧ Ex H1 H' ∧ (stuck.take i).find? (mdC start left) = none) (fun H2 e2 => ⟨none, rfl, e2, rfl⟩) ?_ ?_
  · rintro H2 e2 i d v σ' H' hd hv ⟨y, rfl, e, hn⟩ e3
    obtain ⟨c, hc1, rfl⟩ : ∃ c, stuck[i]? = some c ∧ Dd.i (c : Int) = d := by
      rw [List.getElem?_map, cvs, List.getElem?_map] at hd
      cases q : stuck[i]? with
      | none => rw [q] at hd; cases hd
      | some c => rw [q] at hd; exact ⟨c, rfl, Option.some.inj hd⟩
    obtain rfl : v = V.int (c : Int) := hv H2 (Ex.refl _)
    have hcm := hmem c (List.mem_of_getElem? hc1)
    have hnx := find_next hc1 hn
    refine a_when1 (K := K) (b := mdC start left c) (et2 (er_call (start, left, c) (era_cons (er_v rfl) (era_cons (hleft e rfl) (era_cons (er_v rfl) era_nil))) rfl ⟨⟨by show start.length = left.length; omega, by show start.length ≤ 1000; omega⟩, by show c < start.length; omega⟩)) (fun hb H4 e4 => ?_) fun hb H4 e4 => ?_
    · rw [if_pos hb] at hnx
      have hf := find_take hnx
      rw [hc, hf] at hk
      refine a_rete (K := K) (er_makeM (cell := .int (c : Int)) (dr := .v .non) (era_cons er_c (era_cons er_c (era_cons (hcell (e.trans e4) rfl) (era_cons (er_v rfl) era_nil))))) rfl (e1.trans (e.trans e4)) (d' := madC K CM row stuck (some c)) fun v H' e5 z => hk v H' e5 z
    · rw [if_neg (by rw [hb]; exact Bool.false_ne_true)] at hnx
      exact ⟨⟨_, rfl, e.trans e4, hnx⟩, e3.trans e4⟩
  · rintro σ' H' e2 ⟨y, rfl, e, hn⟩
    rw [List.length_map, cvs, List.length_map, List.take_length] at hn
    rw [hc, hn] at hk
    refine a_rete (K := K) (er_makeM (cell := .non) (era_cons er_c (era_cons (er_revT (er_order TP.cl TP.nO (er_var rfl (h1.mono e)))) (era_cons (er_tup (vs := []) era_nil (by simp)) (era_cons er_c era_nil))))) ?_ (e1.trans e) (d' := madC K CM row stuck none) fun v H' e5 z => hk v H' e5 z
    show _ = makO K CM true (.U (row.reverse.map fun l => Dd.s (S l))) (.u []) .non
    rw [List.map_reverse]
end
end Mi

set_option maxHeartbeats 4000000
namespace Mi
open PySem PySem.Spec PyProof.Rows L2 Evl
local macro_rules | `(tactic| walk_at "side") => `(tactic| (first | assumption | omega | exact rfl | decide | (simp only [List.length_cons, List.length_nil, List.length_map, List.length_append, List.length_replicate] <;> omega)))
local macro_rules | `(tactic| walk_at "ro") => `(tactic| (first
  | with_reducible exact ro_I0
  | with_reducible exact ro_1018
  | with_reducible exact ro_neC
  | with_reducible exact ro_eqC
  | with_reducible exact ro_neI
  | with_reducible exact ro_eqI
  | with_reducible exact ro_neB
  | with_reducible exact ro_eqB
  | ((with_reducible apply ro_mod); (walk_at "side"))
  | ((with_reducible apply ro_div) <;> (walk_at "side"))
  | ((with_reducible apply ro_divW) <;> (walk_at "side"))
  | with_reducible exact ro_1012
  | with_reducible exact ro_1015
  | ((with_reducible apply ro_mulL) <;> (walk_at "side"))
  | ((with_reducible apply ro_mulR) <;> (walk_at "side"))
  | ((with_reducible apply ro_addC); (walk_at "side"))
  | ((with_reducible apply ro_ixC) <;> (walk_at "side"))
  | ((with_reducible apply ro_ixI) <;> (walk_at "side"))
  | ((with_reducible apply ro_ixIN) <;> (walk_at "side"))
  | ((with_reducible apply ro_ixT2) <;> (walk_at "side"))
  | ((with_reducible apply ro_ixG) <;> (walk_at "side"))
  | ((with_reducible apply ro_eq); exact rfl)
  | ((with_reducible apply ro_ne); exact rfl)
  | with_reducible exact ro_isN
  | with_reducible exact ro_notN
  | with_reducible exact ro_eqL
  | with_reducible exact ro_neL
  | with_reducible exact ro_eqU
  | ((with_reducible apply ro_cat); (walk_at "side"))
  | with_reducible exact ro_inLi
  | with_reducible exact ro_inNi
  | with_reducible exact ro_inUi
  | ((with_reducible apply ro_inL) <;> (walk_at "side"))
  | ((with_reducible apply ro_inN) <;> (walk_at "side"))
  | ((with_reducible apply ro_inU) <;> (walk_at "side"))))
local macro_rules | `(tactic| walk_at "rc") => `(tactic| (first
  | with_reducible exact rc_int
  | with_reducible exact rc_intB
  | with_reducible exact rc_max2
  | ((with_reducible apply rc_lenC); (walk_at "side"))
  | with_reducible exact rc_lenI
  | with_reducible exact rc_lenT
  | with_reducible exact rc_lenIN
  | with_reducible exact rc_lenTN
  | with_reducible exact rc_lenL
  | with_reducible exact rc_lenN
  | with_reducible exact rc_lenU
  | with_reducible exact rc_listL
  | with_reducible exact rc_listU
  | with_reducible exact rc_tupL
  | with_reducible exact rc_tupN
  | ((with_reducible apply rc_isi_int); decide +kernel)
  | ((with_reducible apply rc_isi_str); decide +kernel)
  | ((with_reducible apply rc_isi_bl); decide +kernel)
  | ((with_reducible apply rc_isi_non); decide +kernel)
  | ((with_reducible apply rc_isi_u); decide +kernel)
  | ((with_reducible apply rc_isi_l); decide +kernel)))
local macro_rules | `(tactic| walk_at "er") => `(tactic| (first
  | ((with_reducible apply er_var); (exact rfl); assumption)
  | ((with_reducible apply er_v); exact rfl)
  | with_reducible exact er_c
  | ((with_reducible apply er_pick); (walk_at "er"); (walk_at "er"); (walk_at "er"))
  | ((with_reducible apply er_op); (walk_at "er"); (walk_at "er"); (walk_at "ro"))
  | ((with_reducible apply er_cb); (walk_at "era"); (walk_at "rc"))
  | ((with_reducible apply er_lst'); (walk_at "era"); (exact rfl); (walk_at "side"))
  | ((with_reducible apply er_tup'); (walk_at "era"); (exact rfl); (walk_at "side"))
  | ((with_reducible apply er_notV); (walk_at "er"))
  | ((with_reducible apply er_andV); (walk_at "er"); (intro _; (walk_at "er")))
  | ((with_reducible apply er_orV); (walk_at "er"); (intro _; (walk_at "er")))
  | ((with_reducible apply er_ite); (walk_at "et"); (intro _; (walk_at "er")); (intro _; (walk_at "er")))))
local macro_rules | `(tactic| walk_at "era") => `(tactic| (first
  | with_reducible exact era_nil
  | ((with_reducible apply era_cons); (walk_at "er"); (walk_at "era"))))
local macro_rules | `(tactic| walk_at "et") => `(tactic| (first
  | ((with_reducible apply et_an); (walk_at "et"); (intro _; (walk_at "et")))
  | ((with_reducible apply et_orr); (walk_at "et"); (intro _; (walk_at "et")))
  | ((with_reducible apply et_nt); (walk_at "et"))
  | ((with_reducible apply et1); (walk_at "er"))
  | ((with_reducible apply et2); (walk_at "er"))))

/-! ### fields of a Making -/
section
variable {K : PySem.W.Frag} {σ : L2.St} {G H : Hp} {te tl : TE} {C : Addr} {made : Bool} {dr dc : Dd} {cell : V}
theorem ne_m1 : ¬ (("made" : Str) = "cell") := by decide +kernel
theorem ne_m2 : ¬ (("made" : Str) = "cells") := by decide +kernel
theorem ne_m3 : ¬ (("made" : Str) = "row") := by decide +kernel
theorem ne_m4 : ¬ (("row" : Str) = "cell") := by decide +kernel
theorem ne_m5 : ¬ (("row" : Str) = "cells") := by decide +kernel
theorem ne_m6 : ¬ (("cells" : Str) = "cell") := by decide +kernel
theorem er_mMade (cl : Cls K C) (na : NoAttr K C "made") (h : Er K te σ H (makO K C made dr dc cell)) : Er K (tFld K te "made") σ H (.b made) := fun H1 e Q q =>
  h H1 e _ fun v H2 e2 ⟨x, dx, vr, vc, ev, h1, h2, h3⟩ => by
    subst ev
    refine ⟨x, C, dx, _, .bl made, rfl, h1, cl, na, ?_, q _ H2 e2 rfl⟩
    unfold mkFlds
    rw [lookup_putF, if_neg ne_m1, lookup_putF, if_neg ne_m2, lookup_putF, if_neg ne_m3, lookup_putF, if_pos rfl]
theorem er_mRow (cl : Cls K C) (na : NoAttr K C "row") (h : Er K te σ H (makO K C made dr dc cell)) : Er K (tFld K te "row") σ H dr := fun H1 e Q q =>
  h H1 e _ fun v H2 e2 ⟨x, dx, vr, vc, ev, h1, h2, h3⟩ => by
    subst ev
    refine ⟨x, C, dx, _, vr, rfl, h1, cl, na, ?_, q _ H2 e2 h2⟩
    unfold mkFlds
    rw [lookup_putF, if_neg ne_m4, lookup_putF, if_neg ne_m5, lookup_putF, if_pos rfl]
theorem er_mCells (cl : Cls K C) (na : NoAttr K C "cells") (h : Er K te σ H (makO K C made dr dc cell)) : Er K (tFld K te "cells") σ H dc := fun H1 e Q q =>
  h H1 e _ fun v H2 e2 ⟨x, dx, vr, vc, ev, h1, h2, h3⟩ => by
    subst ev
    refine ⟨x, C, dx, _, vc, rfl, h1, cl, na, ?_, q _ H2 e2 h3⟩
    unfold mkFlds
    rw [lookup_putF, if_neg ne_m6, lookup_putF, if_pos rfl]
theorem ef_mRow (cl : Cls K C) (na : NoAttr K C "row") (h : Ef K te σ G (makO K C made dr dc cell)) : Ef K (tFld K te "row") σ G dr := fun G1 A e1 e2 Q q =>
  h G1 A e1 e2 _ fun v G2 A2 s2 ⟨x, dx, vr, vc, ev, h1, h2, h3⟩ => by
    subst ev
    refine ⟨x, C, dx, _, vr, rfl, s2.v x _ h1, cl, na, ?_, q _ G2 A2 s2 h2⟩
    unfold mkFlds
    rw [lookup_putF, if_neg ne_m4, lookup_putF, if_neg ne_m5, lookup_putF, if_pos rfl]
theorem ef_mCells (cl : Cls K C) (na : NoAttr K C "cells") (h : Ef K te σ G (makO K C made dr dc cell)) : Ef K (tFld K te "cells") σ G dc := fun G1 A e1 e2 Q q =>
  h G1 A e1 e2 _ fun v G2 A2 s2 ⟨x, dx, vr, vc, ev, h1, h2, h3⟩ => by
    subst ev
    refine ⟨x, C, dx, _, vc, rfl, s2.v x _ h1, cl, na, ?_, q _ G2 A2 s2 h3⟩
    unfold mkFlds
    rw [lookup_putF, if_neg ne_m6, lookup_putF, if_pos rfl]
theorem er_mCell (cl : Cls K C) (na : NoAttr K C "cell") (h : Er K te σ H (makO K C made dr dc cell)) : Er K (tFld K te "cell") σ H (.v cell) := fun H1 e Q q =>
  h H1 e _ fun v H2 e2 ⟨x, dx, vr, vc, ev, h1, h2, h3⟩ => by
    subst ev
    refine ⟨x, C, dx, _, cell, rfl, h1, cl, na, ?_, q _ H2 e2 rfl⟩
    unfold mkFlds
    rw [lookup_putF, if_pos rfl]
end
/-! ### mathematics of what leads -/
theorem fits_of {size : Nat} {sheet layer : List Nat} (h : FitsP size sheet layer) (hl : layer.length = size) : fitsM sheet layer = true := by
  unfold fitsM
  rw [Bool.and_eq_true, Bool.not_eq_true', decide_eq_false_iff_not]
  have sl := h.l
  refine ⟨fun hm => ?_, ?_⟩
  · obtain ⟨i, hi, hx⟩ := List.getElem_of_mem hm
    refine h.m i (by omega) ?_
    rw [List.getD_eq_getElem?_getD, List.getElem?_eq_getElem hi]
    exact hx
  · cases ha : agreeM sheet layer with
    | true => rfl
    | false =>
      obtain ⟨c, k1, k2, k3, k4⟩ := agree_no ha (by omega)
      rcases h.f c (by omega) with q | q
      · exact absurd q k4
      · exact absurd q k2
theorem ground_len {b s : List Nat} (h : b.length = s.length) : (groundM b s).length = b.length := by
  unfold groundM
  rw [List.length_map, pressM_len h]
theorem ground_at {b s : List Nat} (hl : b.length = s.length) {c : Nat} (hc : c < b.length) : (groundM b s).getD c 0 = if (if s.getD c 0 = 45 then b.getD c 0 else s.getD c 0) = 45 then 46 else (if s.getD c 0 = 45 then b.getD c 0 else s.getD c 0) := by
  have hp : c < (pressM b s).length := by rw [pressM_len hl]; exact hc
  rw [← press_at hl hc]
  unfold groundM
  rw [List.getD_eq_getElem?_getD, List.getElem?_map, List.getD_eq_getElem?_getD, List.getElem?_eq_getElem hp]
  rfl
theorem ite46 (x : Nat) : ¬ (if x = 45 then 46 else x) = 45 := by
  by_cases h : x = 45
  · rw [if_pos h]
    decide
  · rw [if_neg h]
    exact h
theorem ground_left {size : Nat} {b s : List Nat} (hb : b.length = size) (hs : s.length = size) : FitsP size (groundM b s) s := by
  refine ⟨by rw [ground_len (by omega), hb], fun c hc => ?_, fun c hc => ?_⟩
  · rw [ground_at (by omega) (by omega)]
    exact ite46 _
  · rw [ground_at (by omega) (by omega)]
    by_cases h : s.getD c 0 = 45
    · exact .inl h
    · right
      rw [if_neg h, if_neg h]
theorem ground_base {size : Nat} {b s : List Nat} (hb : b.length = size) (hs : s.length = size) (hn : ∀ c < size, mdC b s c = false) : FitsP size (groundM b s) b := by
  refine ⟨by rw [ground_len (by omega), hb], fun c hc => ?_, fun c hc => ?_⟩
  · rw [ground_at (by omega) (by omega)]
    exact ite46 _
  · have h := hn c hc
    rw [ground_at (by omega) (by omega)]
    by_cases h1 : b.getD c 0 = 45
    · exact .inl h1
    · right
      by_cases h2 : s.getD c 0 = 45
      · rw [if_pos h2, if_neg h1]
      · rw [if_neg h2, if_neg h2]
        have : b.getD c 0 = s.getD c 0 := by
          unfold mdC at h
          rw [decide_eq_false h1, decide_eq_false h2] at h
          simpa using h
        exact this.symm
theorem walkM_lt {sts : List (List Nat × List Nat)} : ∀ {n : Nat} {stay : List Nat}, ∀ k ∈ (walkM sts n stay).1, k < sts.length
  | 0, stay, k, h => by cases h
  | n + 1, stay, k, h => by
    cases hf : sts.findIdx? (peelL stay) with
    | none =>
      rw [walk_none hf] at h
      cases h
    | some j =>
      rw [walk_some hf] at h
      rcases List.mem_cons.mp h with rfl | h
      · exact (List.findIdx?_eq_some_iff_getElem.mp hf).1
      · exact walkM_lt k h
theorem walk_is {sts : List (List Nat × List Nat)} {seen : List Nat} (hl : ∀ p ∈ sts, p.2.length = seen.length) : rowOf sts seen = (walkM sts (sts.length + 1) seen).1.map (fun k => (sts.getD k ([], [])).1) ∧ leftOf sts seen = (walkM sts (sts.length + 1) seen).2 := by
  obtain ⟨a, b⟩ := walk_alike hl (n := sts.length + 1) (left := seen) rfl
  rw [walk_law hl rfl] at a b
  exact ⟨a, b⟩
theorem clash_none {sts : List (List Nat × List Nat)} {start seen : List Nat} (h : clash sts start seen = none) : ∀ c < seen.length, mdC start (leftOf sts seen) c = false := by
  intro c hc
  by_cases h2 : (leftOf sts seen).getD c 0 = 45
  · unfold mdC
    rw [decide_eq_true h2]
    simp
  · have := List.find?_eq_none.mp h c (stuck_mem.mpr ⟨hc, h2⟩)
    simpa using this
section
variable {P : Program} {w : World} {K : PySem.W.Frag} {mg : Str → Option Value} {base : Heap}
abbrev s__law_leads : Stmt := topS 64
theorem sc__law_leads : FnScope ["stamps", "base", "shown", "actual", "walk", "ground", "name", "number"] ["stamps", "base", "shown", "actual"] (defScope s__law_leads) := ⟨rfl, rfl, rfl, by decide +kernel, rfl, by decide +kernel, by decide +kernel⟩

abbrev mkE (K : PySem.W.Frag) (CM : Addr) (row : List (List Nat)) : Dd := makO K CM true (.U (row.map fun l => Dd.s (S l))) (.u []) .non
abbrev sp__law_leads (K : PySem.W.Frag) (CM : Addr) : Sp := spR K (fun a : List (List Nat × List Nat) × List Nat × List Nat => SceneP a.2.2.length a.1 a.2.1 a.2.2 ∧ clash a.1 a.2.1 a.2.2 = none) (fun a => [.L (stD a.1), .s (S a.2.1), .s (S a.2.2), mkE K CM (rowOf a.1 a.2.2).reverse]) fun _ => .b true
theorem has__law_leads {CM : Addr} (T : Txt K mg) (TM : MkTxt K mg CM) (h : At K mg "_law_leads" s__law_leads ["stamps", "base", "shown", "actual"]) (C__law_layer_of : Has P w K mg base 1 "_law_layer_of" ["stamps", "name"] (sp__law_layer_of K)) (C__law_peel : Has P w K mg base 3 "_law_peel" ["stamps", "shown"] (sp__law_peel K)) (C__law_ground : Has P w K mg base 2 "_law_ground" ["base", "stay"] (sp__law_ground K)) (C__law_fits : Has P w K mg base 2 "_law_fits" ["sheet", "layer"] (sp__law_fits K)) (C__law_pressed : Has P w K mg base 2 "_law_pressed" ["stamps", "layer", "presses"] (sp__law_pressed K)) : Has P w K mg base 4 "_law_leads" ["stamps", "base", "shown", "actual"] (sp__law_leads K CM) := by
  refine h.hasR sc__law_leads (fun _ => rfl) fun f cdv A outer s H a vs Q E hr hp hv hk => ?_
  obtain ⟨sts, bs, seen⟩ := a
  obtain ⟨hp, hcl⟩ := hp
  replace hp : SceneP seen.length sts bs seen := hp
  replace hcl : clash sts bs seen = none := hcl
  rcases hv with _ | ⟨hs, _ | ⟨rfl, _ | ⟨rfl, _ | ⟨ha, _ | _⟩⟩⟩⟩
  rename_i x xa
  replace hs : Is K H (.L (stD sts)) x := hs
  replace ha : Is K H (mkE K CM (rowOf sts seen).reverse) xa := ha
  have sc := sc__law_leads
  have sl := hp.sl
  have lot := hp.st.lot
  have sz := lot.sz
  have few := lot.few
  have hW := walk_is lot.st
  have hend := walkP_end lot.st (n := marksN seen) (left := seen) rfl (Nat.le_refl _)
  have w1 : (leftOf sts seen).length = seen.length := hend.1
  have hfl := ground_left (b := bs) (s := leftOf sts seen) sl w1
  have hfb := ground_base sl w1 (clash_none hcl)
  have hfs : FitsP seen.length (pressAll sts (groundM bs (leftOf sts seen)) (rowOf sts seen).reverse) seen := walkP_leads lot.st hp.st.di rfl hfl
  have hin : ∀ n ∈ rowOf sts seen, ∃ p ∈ sts, p.1 = n := by
    intro n hn
    rw [hW.1] at hn
    obtain ⟨k, hk1, rfl⟩ := List.mem_map.mp hn
    have hk2 := walkM_lt k hk1
    exact ⟨_, getD_memL hk2, rfl⟩
  have hrl : (rowOf sts seen).length ≤ 1000 := by
    have : ∀ (n : Nat) (l : List Nat), (walkP sts n l).1.length ≤ n := by
      intro n
      induction n with
      | zero => intro l; exact Nat.le_refl _
      | succ n ih =>
        intro l
        cases hf : sts.find? (peelC l) with
        | none => rw [walkP_none hf]; exact Nat.zero_le _
        | some p =>
          rw [walkP_some hf]
          have := ih (freeM l p.2)
          show (walkP sts n (freeM l p.2)).1.length + 1 ≤ n + 1
          omega
    have h1 := this (marksN seen) seen
    have h2 := marksN_le seen
    show (walkP sts (marksN seen) seen).1.length ≤ 1000
    omega
  have hgl : (groundM bs (leftOf sts seen)).length = seen.length := hfl.l
  have hpl : (pressAll sts (groundM bs (leftOf sts seen)) (rowOf sts seen).reverse).length = seen.length := hfs.l
  have hwk : ∀ k ∈ (walkM sts (sts.length + 1) seen).1, k < sts.length := walkM_lt
  have hokn : ∀ l ∈ (rowOf sts seen).reverse, okT l := fun l hl => by
    obtain ⟨p, hp1, rfl⟩ := hin l (List.mem_reverse.mp hl)
    exact hp.nm p hp1
  have hwl : (walkM sts (sts.length + 1) seen).1.length ≤ 1000 := by
    rw [← List.length_map (f := fun k => (sts.getD k ([], [])).1), ← hW.1]
    exact hrl
  have hrow : (walkM sts (sts.length + 1) seen).1.reverse.map (fun k => (sts.getD k ([], [])).1) = (rowOf sts seen).reverse := by
    rw [hW.1, List.map_reverse]
  have hfit1 := fits_of hfb sl
  have hfit2 := fits_of hfs rfl
  rw [hW.2] at w1 hgl hpl hfit1 hfit2
  generalize (rowOf sts seen).reverse = row at *
  have hin2 : ∀ n ∈ row, ∃ p ∈ sts, p.1 = n := by
    intro n hn
    rw [← hrow] at hn
    obtain ⟨k, hk1, rfl⟩ := List.mem_map.mp hn
    have hk2 := hwk k (List.mem_reverse.mp hk1)
    exact ⟨_, getD_memL hk2, rfl⟩
  have hrl2 : row.length ≤ 1000 := by
    rw [← hrow, List.length_map, List.length_reverse]
    exact hwl
  refine ⟨_, (pss_cons (ps_if (PW.pt (pw_or (pt_not (pt_val (pe_callB (cr_isi_k (K := K)) (by rfl) T.b_isinstance (by decide +kernel) (pa_cons (pe_fld (pv 3) rfl) (pa_cons (pe_bltn (v := .ty "tuple") (by rfl) T.b_tuple (by decide +kernel) rfl) pa_nil))))) (pw_or (pt_cmpR (op_neD_k (K := K) hr.units) (pe_fld (pv 3) rfl) (pe_tup pa_nil) (nomark _)) (pw_or1 (pt_not (pt_val (pe_callB (cr_isi_k (K := K)) (by rfl) T.b_isinstance (by decide +kernel) (pa_cons (pe_fld (pv 3) rfl) (pa_cons (pe_bltn (v := .ty "tuple") (by rfl) T.b_tuple (by decide +kernel) rfl) pa_nil))))))))) (pss_one (ps_ret pe_bl)) pss_nil)
    (pss_cons (ps_if (PW.pt (pw_or (pt_cmpR op_notN1 (pe_fld (pv 3) rfl) pe_non (nomark _)) (pw_or1 (pt_cmpR (op_neD_k (K := K) hr.units) (pe_lc (own := [("name", 6)]) (g := gName 6) (by rfl) sc.nd (pi_tup_k (K := K) (pe_fld (pv 3) rfl)) (blkOk_by (N := ["stamps", "base", "shown", "actual", "walk", "ground", "name", "number"]) (sc := defScope s__law_leads) (own := [("name", 6)]) (by decide +kernel)) (fun _ _ _ _ _ => (pg_name (i := 6) sc.nd rfl (Or.inl rfl))) (fun _ _ _ _ _ => (pts_one (pt_cmpR op_isN1 (pe_callH C__law_layer_of (hr.mono (by decide)) (pa_cons (pv 0) (pa_cons (pv 6) pa_nil))) pe_non (nomark _)))) (fun _ _ _ _ _ => (pv 6))) (pe_lst pa_nil) (nomark _))))) (pss_one (ps_ret pe_bl)) pss_nil)
    (pss_cons (ps_set (i := 4) sc.nd rfl (Or.inl rfl) (pe_callH C__law_peel (hr.mono (by decide)) (pa_cons (pv 0) (pa_cons (pv 2) pa_nil))))
    (pss_cons (ps_set (i := 5) sc.nd rfl (Or.inl rfl) (pe_callH C__law_ground (hr.mono (by decide)) (pa_cons (pv 1) (pa_cons (pe_ix (ix_list_k (K := K)) (pv 4) pe_int (fun _ _ => rfl)) pa_nil))))
    (pss_cons (ps_if (PW.pt (pw_or (pt_not (pt_val (pe_callH C__law_fits (hr.mono (by decide)) (pa_cons (pv 5) (pa_cons (pv 1) pa_nil))))) (pw_or1 (pt_cmpR (op_neD_k (K := K) hr.units) (pe_callTy (cr_list_k (K := K)) (by rfl) T.b_list (by decide +kernel) (pa_cons (pe_fld (pv 3) rfl) pa_nil)) (pe_lc (own := [("number", 7)]) (g := gName 7) (by rfl) sc.nd (pi_list_k (K := K) (pe_revL_k (K := K) (pe_ix (ix_list_k (K := K)) (pv 4) pe_int (fun _ _ => rfl)))) (blkOk_by (N := ["stamps", "base", "shown", "actual", "walk", "ground", "name", "number"]) (sc := defScope s__law_leads) (own := [("number", 7)]) (by decide +kernel)) (fun _ _ _ _ _ => (pg_name (i := 7) sc.nd rfl (Or.inl rfl))) (fun _ _ _ _ _ => pts_nil) (fun _ _ _ _ _ => (pe_ix (ix_list_k (K := K)) (pe_ix (ix_list_k (K := K)) (pv 0) (pv 7) (fun _ _ => rfl)) pe_int (fun _ _ => rfl)))) (nomark _))))) (pss_one (ps_ret pe_bl)) pss_nil)
    (pss_one (ps_ret (pe_callH C__law_fits (hr.mono (by decide)) (pa_cons (pe_callH C__law_pressed (hr.mono (by decide)) (pa_cons (pv 0) (pa_cons (pv 5) (pa_cons (pe_fld (pv 3) rfl) pa_nil)))) (pa_cons (pv 2) pa_nil)))))))))), ?_⟩
  have no : ∀ {p : Prop}, false = true → p := fun z => absurd z (by decide)
  have am : ∀ {σ : L2.St} {H' : Hp}, Ex H H' → σ[3]? = some (some xa) → Er K (tVar 3) σ H' (mkE K CM row) := fun {σ H'} e q => er_var q (ha.mono e)
  refine a_when (K := K) (b := !true || (!decide (([] : List Int) = []) || !true)) (et_orr (et_nt (et2 (er_cb (era_cons (er_mRow TM.cl TM.nR (am (Ex.refl _) rfl)) (era_cons er_c era_nil)) (rc_isi (b := true) (.type "tuple") (fun _ _ z => ty_Ud z) (kit_ty (by decide +kernel)))))) fun _ => et_orr (et1 (er_op (d1 := .u (vis [])) (d2 := .u (vis [])) (er_mCells TM.cl TM.nC (am (Ex.refl _) rfl)) (er_tup (vs := []) era_nil (by simp)) ro_neU)) fun _ => et_nt (et2 (er_cb (era_cons (er_mCells TM.cl TM.nC (am (Ex.refl _) rfl)) (era_cons er_c era_nil)) (rc_isi_u (b := true) (by decide +kernel))))) (fun z => absurd z (by simp)) fun _ H1 e1 => ?_
  refine a_when (K := K) (b := !decide (V.non = V.non) || !decide (([] : List (List Nat)) = [])) (et_orr (et1 (er_op (er_mCell TM.cl TM.nE (am e1 rfl)) er_c (ro_notN (x := .non)))) fun _ => et1 (er_op (d1 := .l (vsl [])) (d2 := .l (vsl [])) (Er.n2l (Er.as (d := .N (([] : List (List Nat)).map fun l => Dd.s (S l))) (Ef.er (Ef.to (ef_lc (K := K) (G := H1) (its := row) (inj := fun l => Dd.s (S l)) (vs := [6]) (fun _ => false) (fun l => Dd.s (S l)) (if_tup (ef_mRow TM.cl TM.nR (ef_var (i := 3) rfl (ha.mono e1)))) (by omega) (fun i n v G' A' g1 g2 hi hv => ?_)) ?_)) fun _ _ z => nS z)) (Er.n2l (er_lst (vs := []) era_nil (by simp))) (ro_neLs (by simp) (by simp)))) (fun z => absurd z (by simp)) fun _ H2 e2 => ?_
  · obtain rfl : v = V.str (S n) := hv
    obtain ⟨p, hp1, hp2, hp3⟩ := stampOf_is (hin2 n (List.mem_of_getElem? hi))
    refine ⟨_, fun Q q => q, rfl, Et.to (et1 (er_op (Er.to (er_call (sts, n) (era_cons (er_var rfl (hs.mono ((e1.trans g1).trans g2))) (era_cons (er_v rfl) era_nil)) rfl trivial) (congrArg Dd.v hp3)) er_c ro_isN)) (by simp), fun z => absurd z (by simp)⟩
  · have e0 : row.filter (fun _ => false) = [] := List.filter_eq_nil_iff.mpr fun _ _ => Bool.false_ne_true
    rw [e0]
  have E2 := e1.trans e2
  refine a_asg (K := K) (d := peelD (walkM sts (sts.length + 1) seen)) (er_callF (sts, seen) (era_cons (er_var rfl (hs.mono E2)) (era_cons (er_v rfl) era_nil)) rfl lot) fun vw H3 e3 hw => ?_
  have E3 := E2.trans e3
  have wk0 : ∀ {σ : L2.St} {H' : Hp}, Ex H3 H' → σ[4]? = some (some vw) → Er K (tOp (rIxL K) (tVar 4) (tC (.int 0))) σ H' (.n (vis (intsM (walkM sts (sts.length + 1) seen).1))) := fun {σ H'} e q => er_op (er_var q (hw.mono e)) er_c (ro_ixNd (i := 0) rfl)
  have wk1 : ∀ {σ : L2.St} {H' : Hp}, Ex H3 H' → σ[4]? = some (some vw) → Er K (tOp (rIxL K) (tVar 4) (tC (.int 1))) σ H' (.s (S (walkM sts (sts.length + 1) seen).2)) := fun {σ H'} e q => er_op (er_var q (hw.mono e)) er_c (ro_ixNd (i := 1) rfl)
  generalize (walkM sts (sts.length + 1) seen).2 = left at *
  generalize hwn : (walkM sts (sts.length + 1) seen).1 = ks at *
  refine a_setv (K := K) (x := .str (S (groundM bs left))) (er_call (bs, left) (era_cons (er_v rfl) (era_cons (wk1 (Ex.refl _) rfl) era_nil)) rfl ⟨by show bs.length = left.length; omega, by show bs.length ≤ 1000; omega⟩) fun H4 e4 => ?_
  have E4 := E3.trans e4
  refine a_when (K := K) (b := !fitsM (groundM bs left) bs || !decide (row = row)) (et_orr (et_nt (et2 (er_call (groundM bs left, bs) (era_cons (er_v rfl) (era_cons (er_v rfl) era_nil)) rfl ⟨by show (groundM bs left).length = bs.length; omega, by show (groundM bs left).length ≤ 1000; omega⟩))) fun _ => et1 (er_op (d1 := .l (vsl row)) (d2 := .l (vsl row)) (Er.n2l (Er.as (d := .N (row.map fun l => Dd.s (S l))) (er_cb (era_cons (er_mRow TM.cl TM.nR (am E4 rfl)) era_nil) rc_listUd) fun _ _ z => nS z)) (Er.n2l (Er.to (er_lcL (K := K) (its := ks.reverse) (inj := fun k : Nat => V.int (k : Int)) (vs := [7]) (fun _ => true) (fun k => V.str (S (sts.getD k ([], [])).1)) (Er.n2l (Er.to (er_revL (Er.n2l (wk0 e4 rfl))) ?_)) (by rw [List.length_reverse]; omega) (fun _ => rfl) (fun i k H5 e5 hi H6 e6 Q q => q H6 (Ex.refl _)) (fun i k H5 e5 hi _ => ?_)) ?_)) (ro_neLs hokn hokn))) (fun z => absurd z (by rw [hfit1]; simp)) fun _ H5 e5 => ?_
  · unfold intsM
    rw [vis, ← List.map_reverse, ← List.map_reverse, List.map_map]
    rfl
  · have hk2 := hwk k (List.mem_reverse.mp (List.mem_of_getElem? hi))
    have hg : sts[k]? = some (sts.getD k ([], [])) := by
      rw [List.getD_eq_getElem?_getD, List.getElem?_eq_getElem hk2]
      rfl
    exact er_place (i := 0) (er_place (i := k) (er_var rfl (hs.mono (E4.trans e5))) (er_v rfl) (stD_at hg)) er_c rfl
  · rw [filt_true, ← hrow, vsl, vss, List.map_map, List.map_map]
    rfl
  have E5 := E4.trans e5
  refine a_rete (K := K) (er_call (pressAll sts (groundM bs left) row, seen) (era_cons (er_call (sts, groundM bs left, row) (era_cons (er_var rfl (hs.mono E5)) (era_cons (er_v rfl) (era_cons (er_mRow TM.cl TM.nR (am E5 rfl)) era_nil))) rfl ⟨⟨few, fun p hp1 => by rw [lot.st p hp1]; exact hgl.symm, by show (groundM bs left).length ≤ 1000; omega⟩, ⟨hrl2, hin2⟩⟩) (era_cons (er_v rfl) era_nil)) rfl ⟨hpl, by show (pressAll sts (groundM bs left) row).length ≤ 1000; omega⟩) ?_ E5 hk
  show Dd.b (fitsM _ _) = Dd.b true
  rw [hfit2]
end
end Mi

set_option maxHeartbeats 4000000
namespace Mi
open PySem PySem.Spec PyProof.Rows L2 Evl
local macro_rules | `(tactic| walk_at "side") => `(tactic| (first | assumption | omega | exact rfl | decide | (simp only [List.length_cons, List.length_nil, List.length_map, List.length_append, List.length_replicate] <;> omega)))
local macro_rules | `(tactic| walk_at "ro") => `(tactic| (first
  | with_reducible exact ro_I0
  | with_reducible exact ro_1018
  | with_reducible exact ro_neC
  | with_reducible exact ro_eqC
  | with_reducible exact ro_neI
  | with_reducible exact ro_eqI
  | with_reducible exact ro_neB
  | with_reducible exact ro_eqB
  | ((with_reducible apply ro_mod); (walk_at "side"))
  | ((with_reducible apply ro_div) <;> (walk_at "side"))
  | ((with_reducible apply ro_divW) <;> (walk_at "side"))
  | with_reducible exact ro_1012
  | with_reducible exact ro_1015
  | ((with_reducible apply ro_mulL) <;> (walk_at "side"))
  | ((with_reducible apply ro_mulR) <;> (walk_at "side"))
  | ((with_reducible apply ro_addC); (walk_at "side"))
  | ((with_reducible apply ro_ixC) <;> (walk_at "side"))
  | ((with_reducible apply ro_ixI) <;> (walk_at "side"))
  | ((with_reducible apply ro_ixIN) <;> (walk_at "side"))
  | ((with_reducible apply ro_ixT2) <;> (walk_at "side"))
  | ((with_reducible apply ro_ixG) <;> (walk_at "side"))
  | ((with_reducible apply ro_eq); exact rfl)
  | ((with_reducible apply ro_ne); exact rfl)
  | with_reducible exact ro_isN
  | with_reducible exact ro_notN
  | with_reducible exact ro_eqL
  | with_reducible exact ro_neL
  | with_reducible exact ro_eqU
  | ((with_reducible apply ro_cat); (walk_at "side"))
  | with_reducible exact ro_inLi
  | with_reducible exact ro_inNi
  | with_reducible exact ro_inUi
  | ((with_reducible apply ro_inL) <;> (walk_at "side"))
  | ((with_reducible apply ro_inN) <;> (walk_at "side"))
  | ((with_reducible apply ro_inU) <;> (walk_at "side"))))
local macro_rules | `(tactic| walk_at "rc") => `(tactic| (first
  | with_reducible exact rc_int
  | with_reducible exact rc_intB
  | with_reducible exact rc_max2
  | ((with_reducible apply rc_lenC); (walk_at "side"))
  | with_reducible exact rc_lenI
  | with_reducible exact rc_lenT
  | with_reducible exact rc_lenIN
  | with_reducible exact rc_lenTN
  | with_reducible exact rc_lenL
  | with_reducible exact rc_lenN
  | with_reducible exact rc_lenU
  | with_reducible exact rc_listL
  | with_reducible exact rc_listU
  | with_reducible exact rc_tupL
  | with_reducible exact rc_tupN
  | ((with_reducible apply rc_isi_int); decide +kernel)
  | ((with_reducible apply rc_isi_str); decide +kernel)
  | ((with_reducible apply rc_isi_bl); decide +kernel)
  | ((with_reducible apply rc_isi_non); decide +kernel)
  | ((with_reducible apply rc_isi_u); decide +kernel)
  | ((with_reducible apply rc_isi_l); decide +kernel)))
local macro_rules | `(tactic| walk_at "er") => `(tactic| (first
  | ((with_reducible apply er_var); (exact rfl); assumption)
  | ((with_reducible apply er_v); exact rfl)
  | with_reducible exact er_c
  | ((with_reducible apply er_pick); (walk_at "er"); (walk_at "er"); (walk_at "er"))
  | ((with_reducible apply er_op); (walk_at "er"); (walk_at "er"); (walk_at "ro"))
  | ((with_reducible apply er_cb); (walk_at "era"); (walk_at "rc"))
  | ((with_reducible apply er_lst'); (walk_at "era"); (exact rfl); (walk_at "side"))
  | ((with_reducible apply er_tup'); (walk_at "era"); (exact rfl); (walk_at "side"))
  | ((with_reducible apply er_notV); (walk_at "er"))
  | ((with_reducible apply er_andV); (walk_at "er"); (intro _; (walk_at "er")))
  | ((with_reducible apply er_orV); (walk_at "er"); (intro _; (walk_at "er")))
  | ((with_reducible apply er_ite); (walk_at "et"); (intro _; (walk_at "er")); (intro _; (walk_at "er")))))
local macro_rules | `(tactic| walk_at "era") => `(tactic| (first
  | with_reducible exact era_nil
  | ((with_reducible apply era_cons); (walk_at "er"); (walk_at "era"))))
local macro_rules | `(tactic| walk_at "et") => `(tactic| (first
  | ((with_reducible apply et_an); (walk_at "et"); (intro _; (walk_at "et")))
  | ((with_reducible apply et_orr); (walk_at "et"); (intro _; (walk_at "et")))
  | ((with_reducible apply et_nt); (walk_at "et"))
  | ((with_reducible apply et1); (walk_at "er"))
  | ((with_reducible apply et2); (walk_at "er"))))

theorem cvs_vis (cs : List Nat) : cvs cs = vis (intsM cs) := by
  unfold cvs intsM
  rw [vis, List.map_map]
  rfl
theorem clash_wrong {sts : List (List Nat × List Nat)} {start seen : List Nat} {c : Nat} (h : clash sts start seen = some c) : ((stuckOf sts seen).filter (wrongB start (leftOf sts seen)))[0]? = some c := by
  have e : (stuckOf sts seen).filter (wrongB start (leftOf sts seen)) = (stuckOf sts seen).filter (mdC start (leftOf sts seen)) := by
    apply List.filter_congr
    intro x hx
    have h2 := (stuck_mem.mp hx).2
    unfold wrongB mdC
    rw [decide_eq_false h2]
    simp
  rw [e, ← List.head?_eq_getElem?, List.head?_filter]
  exact h
section
variable {P : Program} {w : World} {K : PySem.W.Frag} {mg : Str → Option Value} {base : Heap}
/-! ### what stands against a making -/
abbrev s__law_barred : Stmt := topS 65
theorem sc__law_barred : FnScope ["stamps", "base", "shown", "actual", "stay", "stuck", "wrong", "cell"] ["stamps", "base", "shown", "actual"] (defScope s__law_barred) := ⟨rfl, rfl, rfl, by decide +kernel, rfl, by decide +kernel, by decide +kernel⟩

abbrev mkB (K : PySem.W.Frag) (CM : Addr) (stuck : List Nat) (c : Nat) : Dd := makO K CM false (.v .non) (.u (cvs stuck)) (.int (c : Int))
abbrev sp__law_barred (K : PySem.W.Frag) (CM : Addr) : Sp := spR K (fun a : (List (List Nat × List Nat) × List Nat) × List Nat × Nat => SceneP a.2.1.length a.1.1 a.1.2 a.2.1 ∧ clash a.1.1 a.1.2 a.2.1 = some a.2.2) (fun a => [.L (stD a.1.1), .s (S a.1.2), .s (S a.2.1), mkB K CM (stuckOf a.1.1 a.2.1) a.2.2]) fun _ => .b true
theorem has__law_barred {CM : Addr} (T : Txt K mg) (TM : MkTxt K mg CM) (h : At K mg "_law_barred" s__law_barred ["stamps", "base", "shown", "actual"]) (C__law_peel : Has P w K mg base 3 "_law_peel" ["stamps", "shown"] (sp__law_peel K)) (C__law_whole : Has P w K mg base 1 "_law_whole" ["value"] (sp__law_whole K)) (C__law_fast : Has P w K mg base 1 "_law_fast" ["stamps", "shown", "cells"] (sp__law_fast K)) : Has P w K mg base 4 "_law_barred" ["stamps", "base", "shown", "actual"] (sp__law_barred K CM) := by
  refine h.hasR sc__law_barred (fun _ => rfl) fun f cdv A outer s H a vs Q E hr hp hv hk => ?_
  obtain ⟨⟨sts, bs⟩, seen, c⟩ := a
  obtain ⟨hp, hcl⟩ := hp
  replace hp : SceneP seen.length sts bs seen := hp
  replace hcl : clash sts bs seen = some c := hcl
  rcases hv with _ | ⟨hs, _ | ⟨rfl, _ | ⟨rfl, _ | ⟨ha, _ | _⟩⟩⟩⟩
  rename_i x xa
  replace hs : Is K H (.L (stD sts)) x := hs
  replace ha : Is K H (mkB K CM (stuckOf sts seen) c) xa := ha
  have sc := sc__law_barred
  have sl := hp.sl
  have lot := hp.st.lot
  have sz := lot.sz
  have few := lot.few
  have hW := walk_is lot.st
  have w1 : (leftOf sts seen).length = seen.length := (walkP_end lot.st (n := marksN seen) (left := seen) rfl (Nat.le_refl _)).1
  have hcw := clash_wrong hcl
  have hfast : fastL sts seen (stuckOf sts seen) = true := stuck_fast lot.st rfl (Nat.le_refl _)
  have hmem : ∀ c ∈ stuckOf sts seen, c < seen.length := fun c hc => (stuck_mem.mp hc).1
  have hst : stuckOf sts seen = (List.range seen.length).filter fun c => !decide ((leftOf sts seen).getD c 0 = 45) := rfl
  have hsl : (stuckOf sts seen).length ≤ 1000 := by
    rw [hst]
    refine Nat.le_trans (List.length_filter_le _ _) ?_
    rw [List.length_range]
    omega
  generalize stuckOf sts seen = stuck at *
  rw [hW.2] at w1 hcw hst
  refine ⟨_, (pss_cons (ps_set (i := 4) sc.nd rfl (Or.inr rfl) (pe_ix (ix_list_k (K := K)) (pe_callH C__law_peel (hr.mono (by decide)) (pa_cons (pv 0) (pa_cons (pv 2) pa_nil))) pe_int (fun _ _ => rfl)))
    (pss_cons (ps_setLc (i := 5) (own := [("cell", 7)]) (g := gName 7) (by rfl) sc.nd rfl rfl (sw_true rfl rfl rfl (by decide +kernel)) (pi_range1 (by rfl) T.b_range (pa_cons (pe_callB cr_lenStr (by rfl) T.b_len (by decide +kernel) (pa_cons (pv 2) pa_nil)) pa_nil)) (blkOk_by (N := ["stamps", "base", "shown", "actual", "stay", "stuck", "wrong", "cell"]) (sc := defScope s__law_barred) (own := [("cell", 7)]) (by decide +kernel)) (fun _ _ _ _ _ => (pg_name (i := 7) sc.nd rfl (Or.inl rfl))) (fun _ _ _ _ _ => (pts_one (pt_cmpR op_ne (pe_ix ix_str (pv 4) (pv 7) (fun _ _ => rfl)) (pe_strS [45] (by rfl)) (nomark _)))) (fun _ _ _ _ _ => (pv 7)))
    (pss_cons (ps_setLc (i := 6) (own := [("cell", 7)]) (g := gName 7) (by rfl) sc.nd rfl rfl (sw_true rfl rfl rfl (by decide +kernel)) (pi_list_k (K := K) (pv 5)) (blkOk_by (N := ["stamps", "base", "shown", "actual", "stay", "stuck", "wrong", "cell"]) (sc := defScope s__law_barred) (own := [("cell", 7)]) (by decide +kernel)) (fun _ _ _ _ _ => (pg_name (i := 7) sc.nd rfl (Or.inl rfl))) (fun _ _ _ _ _ => (pts_one (PW.pt (pw_and (pt_cmpR op_ne (pe_ix ix_str (pv 1) (pv 7) (fun _ _ => rfl)) (pe_strS [45] (by rfl)) (nomark _)) (pw_and1 (pt_cmpR op_ne (pe_ix ix_str (pv 1) (pv 7) (fun _ _ => rfl)) (pe_ix ix_str (pv 4) (pv 7) (fun _ _ => rfl)) (nomark _))))))) (fun _ _ _ _ _ => (pv 7)))
    (pss_cons (ps_if (PW.pt (pw_or (pt_cmpR op_notN1 (pe_fld (pv 3) rfl) pe_non (nomark _)) (pw_or (pt_not (pt_val (pe_callB (cr_isi_k (K := K)) (by rfl) T.b_isinstance (by decide +kernel) (pa_cons (pe_fld (pv 3) rfl) (pa_cons (pe_bltn (v := .ty "tuple") (by rfl) T.b_tuple (by decide +kernel) rfl) pa_nil))))) (pw_or (pt_cmpR (op_neD_k (K := K) hr.units) (pe_callTy (cr_list_k (K := K)) (by rfl) T.b_list (by decide +kernel) (pa_cons (pe_fld (pv 3) rfl) pa_nil)) (pv 5) (nomark _)) (pw_or1 (pt_cmpR op_eq (pe_callB (cr_len_k (K := K)) (by rfl) T.b_len (by decide +kernel) (pa_cons (pv 6) pa_nil)) pe_int (nomark _))))))) (pss_one (ps_ret pe_bl)) pss_nil)
    (pss_cons (ps_if (PW.pt (pw_or (pt_cmpR (op_neD_k (K := K) hr.units) (pe_lc (own := [("cell", 7)]) (g := gName 7) (by rfl) sc.nd (pi_tup_k (K := K) (pe_fld (pv 3) rfl)) (blkOk_by (N := ["stamps", "base", "shown", "actual", "stay", "stuck", "wrong", "cell"]) (sc := defScope s__law_barred) (own := [("cell", 7)]) (by decide +kernel)) (fun _ _ _ _ _ => (pg_name (i := 7) sc.nd rfl (Or.inl rfl))) (fun _ _ _ _ _ => (pts_one (pt_not (pt_val (pe_callH C__law_whole (hr.mono (by decide)) (pa_cons (pv 7) pa_nil)))))) (fun _ _ _ _ _ => (pv 7))) (pe_lst pa_nil) (nomark _)) (pw_or1 (pt_not (pt_val (pe_callH C__law_whole (hr.mono (by decide)) (pa_cons (pe_fld (pv 3) rfl) pa_nil))))))) (pss_one (ps_ret pe_bl)) pss_nil)
    (pss_one (ps_ret (pe_and (pe_callH C__law_fast (hr.mono (by decide)) (pa_cons (pv 0) (pa_cons (pv 2) (pa_cons (pv 5) pa_nil)))) (pe_one (pe_cmpR op_eq (pe_fld (pv 3) rfl) (pe_ix (ix_list_k (K := K)) (pv 6) pe_int (fun _ _ => rfl)) (nomark _))))))))))), ?_⟩
  have am : ∀ {σ : L2.St} {H' : Hp}, Ex H H' → σ[3]? = some (some xa) → Er K (tVar 3) σ H' (mkB K CM stuck c) := fun {σ H'} e q => er_var q (ha.mono e)
  refine a_setv (K := K) (x := .str (S (walkM sts (sts.length + 1) seen).2)) (er_op (er_callF (sts, seen) (era_cons (er_var rfl hs) (era_cons (er_v rfl) era_nil)) rfl lot) er_c (ro_ixNd (i := 1) rfl)) fun H1 e1 => ?_
  generalize (walkM sts (sts.length + 1) seen).2 = left at *
  refine a_asg (K := K) (d := .n (cvs stuck)) (Er.to (er_lcR (K := K) (n := seen.length) (vs := [7]) (fun c => !decide (left.getD c 0 = 45)) (fun c : Nat => V.int (c : Int)) (era_cons (Er.to (er_cb (era_cons (er_v rfl) era_nil) (rc_lenS (z := S seen) (by rw [S_len]; omega))) (by rw [S_len])) era_nil) (by omega) (fun _ => rfl) (fun i H2 e2 hi => ?_) (fun i H2 e2 hi _ => er_v rfl)) (by rw [hst, cvs])) fun xs H2 e2 hxs => ?_
  · exact Et.to (K := K) (et1 (er_op (er_sign (l := left) (n := i) (er_v rfl) (er_v rfl) (by omega) (by omega)) er_c ro_neC)) (by simp)
  have E2 := e1.trans e2
  refine a_asg (K := K) (d := .n (cvs (stuck.filter (wrongB bs left)))) (er_lcL (K := K) (its := stuck) (inj := fun c : Nat => V.int (c : Int)) (vs := [7]) (wrongB bs left) (fun c : Nat => V.int (c : Int)) (Er.n2l (er_var rfl hxs)) (by omega) (fun _ => rfl) (fun i c H3 e3 hi => ?_) (fun i c H3 e3 hi _ => er_v rfl)) fun xw H3 e3 hxw => ?_
  · have hcb := hmem c (List.mem_of_getElem? hi)
    exact Et.to (K := K) (et_an (et1 (er_op (er_sign (l := bs) (n := c) (er_v rfl) (er_v rfl) (by omega) (by omega)) er_c ro_neC)) fun _ => et1 (er_op (er_sign (l := bs) (n := c) (er_v rfl) (er_v rfl) (by omega) (by omega)) (er_sign (l := left) (n := c) (er_v rfl) (er_v rfl) (by omega) (by omega)) ro_neC)) (by unfold wrongB; simp)
  have E3 := E2.trans e3
  have hpos : 0 < (stuck.filter (wrongB bs left)).length := (List.getElem?_eq_some_iff.mp hcw).1
  generalize stuck.filter (wrongB bs left) = wrong at *
  have cells : ∀ {σ : L2.St} {H' : Hp}, Ex H H' → σ[3]? = some (some xa) → Er K (tFld K (tVar 3) "cells") σ H' (.u (cvs stuck)) := fun {σ H'} e q => er_mCells TM.cl TM.nC (am e q)
  refine a_when (K := K) (b := !decide (V.non = V.non) || (!true || (!decide (intsM stuck = intsM stuck) || decide ((wrong.length : Int) = 0)))) (et_orr (et1 (er_op (er_mRow TM.cl TM.nR (am E3 rfl)) er_c (ro_notN (x := .non)))) fun _ => et_orr (et_nt (et2 (er_cb (era_cons (cells E3 rfl) (era_cons er_c era_nil)) (rc_isi_u (b := true) (by decide +kernel))))) fun _ => et_orr (et1 (er_op (d1 := .l (vis (intsM stuck))) (d2 := .l (vis (intsM stuck))) (Er.n2l (Er.to (er_cb (era_cons (cells E3 rfl) era_nil) rc_listU) (by rw [cvs_vis]))) (Er.n2l (Er.to (er_var rfl (hxs.mono e3)) (by rw [cvs_vis]))) ro_neL)) fun _ => et1 (er_op (Er.to (er_cb (era_cons (er_var rfl hxw) era_nil) rc_lenN) (by rw [cvs, List.length_map])) er_c ro_eqI)) (fun z => absurd z (by rw [decide_eq_false (show ¬ ((wrong.length : Int) = 0) by omega)]; simp)) fun _ H4 e4 => ?_
  have E4 := E3.trans e4
  refine a_when (K := K) (b := !decide (([] : List Int) = []) || !true) (et_orr (et1 (er_op (d1 := .l (vis [])) (d2 := .l (vis [])) (Er.n2l (Er.as (d := .N []) (Ef.er (Ef.to (ef_lc (K := K) (G := H4) (its := stuck) (inj := fun c : Nat => Dd.i (c : Int)) (vs := [7]) (fun _ => false) (fun c : Nat => Dd.i (c : Int)) (if_tup (Ef.as (ef_mCells TM.cl TM.nC (ef_var (i := 3) rfl (ha.mono E4))) fun Hx v z => ?_)) (by omega) (fun i n v G' A' g1 g2 hi hv => ?_)) ?_)) fun _ _ z => Is.N2n (xs := []) z)) (Er.n2l (er_lst (vs := []) era_nil (by simp))) ro_neL)) fun _ => et_nt (et2 (er_call (c : Int) (era_cons (er_mCell TM.cl TM.nE (am E4 rfl)) era_nil) rfl trivial))) (fun z => absurd z (by simp)) fun _ H5 e5 => ?_
  · have := z.u2U
    rw [cvs, List.map_map] at this
    exact this
  · obtain rfl : v = V.int (n : Int) := hv
    exact ⟨_, fun Q q => q, rfl, Et.to (et_nt (et2 (er_call (n : Int) (era_cons (er_v rfl) era_nil) rfl trivial))) (by simp), fun z => absurd z (by simp)⟩
  · have e0 : stuck.filter (fun _ => false) = [] := List.filter_eq_nil_iff.mpr fun _ _ => Bool.false_ne_true
    rw [e0]
    rfl
  have E5 := E4.trans e5
  refine a_rete (K := K) (er_andV (a := fastL sts seen stuck) (b := decide ((c : Int) = (c : Int))) (er_call (seen.length, sts, seen, stuck) (era_cons (er_var rfl (hs.mono E5)) (era_cons (er_v rfl) (era_cons (Er.n2l (er_var rfl ((hxs.mono e3).mono (e4.trans e5)))) era_nil))) rfl ⟨few, lot.st, rfl, sz, hsl, hmem⟩) fun _ => er_op (er_mCell TM.cl TM.nE (am E5 rfl)) (er_op (er_var rfl (hxw.mono (e4.trans e5))) er_c (ro_ixN (i := 0) (x := .int (c : Int)) (by decide) ?_)) ro_eqI) ?_ E5 hk
  · show (cvs wrong)[0]? = _
    rw [cvs, List.getElem?_map, hcw]
    rfl
  · show Dd.b _ = Dd.b true
    rw [hfast]
    simp
/-! ### what making shows -/
abbrev s__law_shows : Stmt := topS 66
theorem sc__law_shows : FnScope ["stamps", "base", "shown", "actual"] ["stamps", "base", "shown", "actual"] (defScope s__law_shows) := ⟨rfl, rfl, rfl, by decide +kernel, rfl, by decide +kernel, by decide +kernel⟩

abbrev sp__law_shows (K : PySem.W.Frag) (CM : Addr) : Sp := spR K (fun a : List (List Nat × List Nat) × List Nat × List Nat => SceneP a.2.2.length a.1 a.2.1 a.2.2) (fun a => [.L (stD a.1), .s (S a.2.1), .s (S a.2.2), madD K CM a.1 a.2.1 a.2.2]) fun _ => .b true
theorem has__law_shows {CM : Addr} (T : Txt K mg) (TM : MkTxt K mg CM) (O : ObTy K CM) (h : At K mg "_law_shows" s__law_shows ["stamps", "base", "shown", "actual"]) (C__law_leads : Has P w K mg base 4 "_law_leads" ["stamps", "base", "shown", "actual"] (sp__law_leads K CM)) (C__law_barred : Has P w K mg base 4 "_law_barred" ["stamps", "base", "shown", "actual"] (sp__law_barred K CM)) : Has P w K mg base 5 "_law_shows" ["stamps", "base", "shown", "actual"] (sp__law_shows K CM) := by
  refine h.hasR sc__law_shows (fun _ => rfl) fun f cdv A outer s H a vs Q E hr hp hv hk => ?_
  obtain ⟨sts, bs, seen⟩ := a
  replace hp : SceneP seen.length sts bs seen := hp
  rcases hv with _ | ⟨hs, _ | ⟨rfl, _ | ⟨rfl, _ | ⟨ha, _ | _⟩⟩⟩⟩
  rename_i x xa
  replace hs : Is K H (.L (stD sts)) x := hs
  replace ha : Is K H (madC K CM (rowOf sts seen) (stuckOf sts seen) (clash sts bs seen)) xa := ha
  have sc := sc__law_shows
  refine ⟨_, (pss_cons (ps_if (PW.pt (pw_or (pt_not (pt_val (pe_callB (cr_isi_k (K := K)) (by rfl) T.b_isinstance (by decide +kernel) (pa_cons (pv 3) (pa_cons (pe_glob (v := .ref CM) rfl TM.mgC rfl) pa_nil))))) (pw_or1 (pt_not (pt_val (pe_callB (cr_isi_k (K := K)) (by rfl) T.b_isinstance (by decide +kernel) (pa_cons (pe_fld (pv 3) rfl) (pa_cons (pe_bltn (v := .ty "bool") (by rfl) T.b_bool (by decide +kernel) rfl) pa_nil)))))))) (pss_one (ps_ret pe_bl)) pss_nil)
    (pss_cons (ps_if (pt_val (pe_fld (pv 3) rfl)) (pss_one (ps_ret (pe_callH C__law_leads (hr.mono (by decide)) (pa_cons (pv 0) (pa_cons (pv 1) (pa_cons (pv 2) (pa_cons (pv 3) pa_nil))))))) pss_nil)
    (pss_one (ps_ret (pe_callH C__law_barred (hr.mono (by decide)) (pa_cons (pv 0) (pa_cons (pv 1) (pa_cons (pv 2) (pa_cons (pv 3) pa_nil))))))))), ?_⟩
  cases hc : clash sts bs seen with
  | none =>
    rw [hc] at ha
    replace ha : Is K H (mkE K CM (rowOf sts seen).reverse) xa := ha
    refine a_when (K := K) (b := !true || !true) (et_orr (et_nt (et2 (er_cb (era_cons (er_var rfl ha) (era_cons er_c era_nil)) (rc_isiO O fun H1 v z => by obtain ⟨y, dx, _, _, rfl, h1, _⟩ := z; exact ⟨y, dx, _, rfl, h1⟩)))) fun _ => et_nt (et2 (er_cb (era_cons (er_mMade TM.cl TM.nM (er_var rfl ha)) (era_cons er_c era_nil)) (rc_isi_bl (b := true) (by decide +kernel))))) (fun z => absurd z (by simp)) fun _ H1 e1 => ?_
    refine a_when (K := K) (b := true) (et2 (er_mMade TM.cl TM.nM (er_var rfl (ha.mono e1)))) (fun _ H2 e2 => ?_) (fun z => absurd z (by simp))
    exact a_rete (K := K) (er_call (sts, bs, seen) (era_cons (er_var rfl (hs.mono (e1.trans e2))) (era_cons (er_v rfl) (era_cons (er_v rfl) (era_cons (er_var rfl (ha.mono (e1.trans e2))) era_nil)))) rfl ⟨hp, hc⟩) rfl (e1.trans e2) hk
  | some c =>
    rw [hc] at ha
    replace ha : Is K H (mkB K CM (stuckOf sts seen) c) xa := ha
    refine a_when (K := K) (b := !true || !true) (et_orr (et_nt (et2 (er_cb (era_cons (er_var rfl ha) (era_cons er_c era_nil)) (rc_isiO O fun H1 v z => by obtain ⟨y, dx, _, _, rfl, h1, _⟩ := z; exact ⟨y, dx, _, rfl, h1⟩)))) fun _ => et_nt (et2 (er_cb (era_cons (er_mMade TM.cl TM.nM (er_var rfl ha)) (era_cons er_c era_nil)) (rc_isi_bl (b := true) (by decide +kernel))))) (fun z => absurd z (by simp)) fun _ H1 e1 => ?_
    refine a_when (K := K) (b := false) (et2 (er_mMade TM.cl TM.nM (er_var rfl (ha.mono e1)))) (fun z => absurd z (by simp)) fun _ H2 e2 => ?_
    exact a_rete (K := K) (er_call ((sts, bs), seen, c) (era_cons (er_var rfl (hs.mono (e1.trans e2))) (era_cons (er_v rfl) (era_cons (er_v rfl) (era_cons (er_var rfl (ha.mono (e1.trans e2))) era_nil)))) rfl ⟨hp, hc⟩) rfl (e1.trans e2) hk
end
end Mi

set_option maxHeartbeats 4000000
namespace Mi
open PySem PySem.Spec PyProof.Rows L2 Evl
local macro_rules | `(tactic| walk_at "side") => `(tactic| (first | assumption | omega | exact rfl | decide | (simp only [List.length_cons, List.length_nil, List.length_map, List.length_append, List.length_replicate] <;> omega)))
local macro_rules | `(tactic| walk_at "ro") => `(tactic| (first
  | with_reducible exact ro_I0
  | with_reducible exact ro_1018
  | with_reducible exact ro_neC
  | with_reducible exact ro_eqC
  | with_reducible exact ro_neI
  | with_reducible exact ro_eqI
  | with_reducible exact ro_neB
  | with_reducible exact ro_eqB
  | ((with_reducible apply ro_mod); (walk_at "side"))
  | ((with_reducible apply ro_div) <;> (walk_at "side"))
  | ((with_reducible apply ro_divW) <;> (walk_at "side"))
  | with_reducible exact ro_1012
  | with_reducible exact ro_1015
  | ((with_reducible apply ro_mulL) <;> (walk_at "side"))
  | ((with_reducible apply ro_mulR) <;> (walk_at "side"))
  | ((with_reducible apply ro_addC); (walk_at "side"))
  | ((with_reducible apply ro_ixC) <;> (walk_at "side"))
  | ((with_reducible apply ro_ixI) <;> (walk_at "side"))
  | ((with_reducible apply ro_ixIN) <;> (walk_at "side"))
  | ((with_reducible apply ro_ixT2) <;> (walk_at "side"))
  | ((with_reducible apply ro_ixG) <;> (walk_at "side"))
  | ((with_reducible apply ro_eq); exact rfl)
  | ((with_reducible apply ro_ne); exact rfl)
  | with_reducible exact ro_isN
  | with_reducible exact ro_notN
  | with_reducible exact ro_eqL
  | with_reducible exact ro_neL
  | with_reducible exact ro_eqU
  | ((with_reducible apply ro_cat); (walk_at "side"))
  | with_reducible exact ro_inLi
  | with_reducible exact ro_inNi
  | with_reducible exact ro_inUi
  | ((with_reducible apply ro_inL) <;> (walk_at "side"))
  | ((with_reducible apply ro_inN) <;> (walk_at "side"))
  | ((with_reducible apply ro_inU) <;> (walk_at "side"))))
local macro_rules | `(tactic| walk_at "rc") => `(tactic| (first
  | with_reducible exact rc_int
  | with_reducible exact rc_intB
  | with_reducible exact rc_max2
  | ((with_reducible apply rc_lenC); (walk_at "side"))
  | with_reducible exact rc_lenI
  | with_reducible exact rc_lenT
  | with_reducible exact rc_lenIN
  | with_reducible exact rc_lenTN
  | with_reducible exact rc_lenL
  | with_reducible exact rc_lenN
  | with_reducible exact rc_lenU
  | with_reducible exact rc_listL
  | with_reducible exact rc_listU
  | with_reducible exact rc_tupL
  | with_reducible exact rc_tupN
  | ((with_reducible apply rc_isi_int); decide +kernel)
  | ((with_reducible apply rc_isi_str); decide +kernel)
  | ((with_reducible apply rc_isi_bl); decide +kernel)
  | ((with_reducible apply rc_isi_non); decide +kernel)
  | ((with_reducible apply rc_isi_u); decide +kernel)
  | ((with_reducible apply rc_isi_l); decide +kernel)))
local macro_rules | `(tactic| walk_at "er") => `(tactic| (first
  | ((with_reducible apply er_var); (exact rfl); assumption)
  | ((with_reducible apply er_v); exact rfl)
  | with_reducible exact er_c
  | ((with_reducible apply er_pick); (walk_at "er"); (walk_at "er"); (walk_at "er"))
  | ((with_reducible apply er_op); (walk_at "er"); (walk_at "er"); (walk_at "ro"))
  | ((with_reducible apply er_cb); (walk_at "era"); (walk_at "rc"))
  | ((with_reducible apply er_lst'); (walk_at "era"); (exact rfl); (walk_at "side"))
  | ((with_reducible apply er_tup'); (walk_at "era"); (exact rfl); (walk_at "side"))
  | ((with_reducible apply er_notV); (walk_at "er"))
  | ((with_reducible apply er_andV); (walk_at "er"); (intro _; (walk_at "er")))
  | ((with_reducible apply er_orV); (walk_at "er"); (intro _; (walk_at "er")))
  | ((with_reducible apply er_ite); (walk_at "et"); (intro _; (walk_at "er")); (intro _; (walk_at "er")))))
local macro_rules | `(tactic| walk_at "era") => `(tactic| (first
  | with_reducible exact era_nil
  | ((with_reducible apply era_cons); (walk_at "er"); (walk_at "era"))))
local macro_rules | `(tactic| walk_at "et") => `(tactic| (first
  | ((with_reducible apply et_an); (walk_at "et"); (intro _; (walk_at "et")))
  | ((with_reducible apply et_orr); (walk_at "et"); (intro _; (walk_at "et")))
  | ((with_reducible apply et_nt); (walk_at "et"))
  | ((with_reducible apply et1); (walk_at "er"))
  | ((with_reducible apply et2); (walk_at "er"))))

section
variable {K : PySem.W.Frag} {σ : L2.St} {G H : Hp} {te tl tb : TE} {tr : TA} {ds : List Dd}
theorem is_cast {d d' : Dd} {x : V} (h : Is K H d x) (e : d = d') : Is K H d' x := e ▸ h
theorem rof_rep {xs : List V} {k : Nat} (h : xs.length * k ≤ 100000) (hk : k ≤ 100000) : Rof K rRep (.n xs) (.v (.int (k : Int))) (.n (List.replicate k xs).flatten) := by
  rintro _ _ G A e ⟨p, rfl, hp⟩ rfl Q q
  exact ⟨p, k, xs, rfl, rfl, e p _ hp, by omega, by omega, by rw [Int.toNat_natCast]; exact sz_of h, fun l hl => q _ (upd G l (.lst (List.replicate k xs).flatten)) _ (by rw [Int.toNat_natCast]; exact Step.new e hl) ⟨l, rfl, upd_same⟩⟩
theorem ef_slLTo {n : Nat} (h : Ef K te σ G (.L ds)) (h2 : Er K tb σ G (.i (n : Int))) : Ef K (tSl (rSlL K) te tNoPart (tPart tb)) σ G (.N (ds.take n)) := fun G1 A1 e1 e2 _ q =>
  h G1 A1 e1 e2 _ fun v G2 A2 s2 ⟨p, vs, ep, hp, hE⟩ => eo_non A2 (((e1.trans s2.g).trans s2.v)) _ fun A3 e3 => eo_of h2 A3 (((e1.trans s2.g).trans s2.v).trans e3) _ fun A4 e4 => by
    subst ep
    have s4 := s2.trans (Step.on s2.v (e3.trans e4))
    refine ⟨p, vs, rfl, ex_l s4.v hp, fun l hl => q _ (upd G2 l (.lst (cutV vs none (some (n : Int))))) _ (s4.trans (Step.new s4.v hl)) ⟨l, _, rfl, upd_same, ?_⟩⟩
    have ec : cutV vs none (some (n : Int)) = vs.take n := by
      unfold cutV
      rw [HT.sIx_none, HT.sIx_nat]
      rw [List.drop_zero, Nat.sub_zero, List.take_eq_take_iff]
      omega
    rw [ec]
    exact isE_take n (IsE.mono (Ex.new (ex_out s4.v hl)) hE)
end
section
variable {P : Program} {w : World} {K : PySem.W.Frag} {mg : Str → Option Value} {base : Heap}
/-! ### digits, seen at once -/
abbrev sp__law_digitsF (K : PySem.W.Frag) : Sp := spF K (fun a : Int × List Int => a.2.length ≤ 1000 ∧ ∀ s ∈ a.2, 0 < s ∧ s < 1000000) (fun a => [.i a.1, .l (vis a.2)]) fun a => .n (vis (digM a.1 a.2))
theorem has__law_digitsF (T : Txt K mg) (h : At K mg "_law_digits" s__law_digits ["cell", "sizes"]) : Has P w K mg base 1 "_law_digits" ["cell", "sizes"] (sp__law_digitsF K) := by
  refine h.hasF sc__law_digits (fun _ => rfl) fun f cdv Ar outer s G H a vs Q E hr hp hA hv hk => ?_
  obtain ⟨x, sizes⟩ := a
  obtain ⟨hz, hpos⟩ := hp
  replace hz : sizes.length ≤ 1000 := hz
  replace hpos : ∀ s ∈ sizes, 0 < s ∧ s < 1000000 := hpos
  rcases hv with _ | ⟨rfl, _ | ⟨⟨pz, rfl, hZ0⟩, _ | _⟩⟩
  have hZ := ex_l hA hZ0
  have hzz : Is K H (.l (vis sizes)) (.ref pz) := ⟨pz, rfl, hZ⟩
  have sc := sc__law_digits
  refine ⟨_, (pss_cons (ps_set (i := 2) sc.nd rfl (Or.inl rfl) (pe_lst pa_nil))
    (pss_cons (ps_set (i := 3) sc.nd rfl (Or.inl rfl) (pe_callTy cr_int (by rfl) T.b_int (by decide +kernel) (pa_cons (pv 0) pa_nil)))
    (pss_cons (ps_if (pt_cmpR op_ge (pv 3) (pe_op op_pow pe_int pe_int) (nomark _)) (pss_cons (ps_set (i := 3) sc.nd rfl (Or.inl rfl) (pe_op op_sub (pv 3) (pe_op op_pow pe_int pe_int)))
    (pss_cons (ps_for PassesOwn.never rfl (pi_list_k (K := K) (pv 1)) (pg_name (i := 4) sc.nd rfl (Or.inl rfl)) (pss_cons (ps_expr (pe_bm_k (K := K) PySem.F.plainAttrs_list PySem.F.slot_list_append PySem.F.type_list_append mt_append (pv 2) (pa_cons (pe_op op_mod (pe_callTy cr_int (by rfl) T.b_int (by decide +kernel) (pa_cons (pv 3) pa_nil)) (pv 4)) pa_nil)))
    (pss_one (ps_set (i := 3) sc.nd rfl (Or.inl rfl) (pe_op op_fdiv (pe_callTy cr_int (by rfl) T.b_int (by decide +kernel) (pa_cons (pv 3) pa_nil)) (pv 4))))))
    (pss_one (ps_ret (pv 2))))) pss_nil)
    (pss_cons (ps_set (i := 5) sc.nd rfl (Or.inl rfl) (pe_op op_mod (pe_callTy cr_int (by rfl) T.b_int (by decide +kernel) (pa_cons (pv 3) pa_nil)) pe_int))
    (pss_cons (ps_for PassesOwn.never rfl (pi_range1 (by rfl) T.b_range (pa_cons (pe_callB (cr_len_k (K := K)) (by rfl) T.b_len (by decide +kernel) (pa_cons (pv 1) pa_nil)) pa_nil)) (pg_name (i := 6) sc.nd rfl (Or.inl rfl)) (pss_cons (ps_set (i := 5) sc.nd rfl (Or.inl rfl) (pe_op op_mod (pe_callTy cr_int (by rfl) T.b_int (by decide +kernel) (pa_cons (pe_op op_add (pe_op op_add (pe_op op_mul (pv 5) pe_int) (pe_op op_mul pe_int (pv 6))) pe_int) pa_nil)) pe_int))
    (pss_cons (ps_set (i := 7) sc.nd rfl (Or.inl rfl) (pe_op op_mod (pe_callTy cr_int (by rfl) T.b_int (by decide +kernel) (pa_cons (pe_op op_mul (pv 5) (pe_op op_add (pe_op op_fdiv (pv 5) pe_int) pe_int)) pa_nil)) pe_int))
    (pss_one (ps_expr (pe_bm_k (K := K) PySem.F.plainAttrs_list PySem.F.slot_list_append PySem.F.type_list_append mt_append (pv 2) (pa_cons (pe_op op_mod (pe_op op_fdiv (pv 7) pe_int) (pe_ix (ix_list_k (K := K)) (pv 1) (pv 6) (fun _ _ => rfl))) pa_nil)))))))
    (pss_one (ps_ret (pv 2)))))))), ?_⟩
  refine a_new fun o H1 ho e1 h1 => ?_
  refine' a_setv (K := K) (x := .int x) ?g1 ?g2
  case g1 => walk_at "er"
  intro H2 e2
  have h2 := e2 o _ h1
  refine' a_when (K := K) ?g3 ?g4 ?g5
  case g3 => walk_at "et"
  case g4 =>
    intro hb H3 e3
    have hb' : 1000000000000000000 ≤ x := by simpa using hb
    refine' a_setv (K := K) ?g6 ?g7
    case g6 => walk_at "er"
    intro H4 e4
    have h4 := e4 o _ (e3 o _ h2)
    have E4 : Ex H H4 := ((e1.trans e2).trans e3).trans e4
    refine b_forA (K := K) (a := pz) (xs := vis sizes) (er_v rfl) (ex_l E4 hZ) (fun i σ' H' => ∃ y, σ' = [some (.int x), some (.ref pz), some (.ref o), some (.int (rsM (x - 1000000000000000000) sizes i)), y, none, none, none] ∧ Ex H H' ∧ H' o = some (.lst (vis ((sizes.zipIdx.take i).map fun p => rsM (x - 1000000000000000000) sizes p.2 % p.1)))) (fun H5 e5 => ⟨none, rfl, E4.trans e5, e5 o _ h4⟩) (fun i σ' H' _ ⟨_, _, e, _⟩ => ex_l e hZ) ?_ ?_
    · rintro i y0 σ' H' hx ⟨y, rfl, e, hO⟩
      obtain ⟨n, hn, rfl⟩ := vis_at hx
      have hn2 := hpos n (List.mem_of_getElem? hn)
      have hn3 : 0 < n := hn2.1
      have hi : i < sizes.length := (List.getElem?_eq_some_iff.mp hn).1
      refine' b_app (K := K) hO (er_v rfl) ?g8 (by rw [List.length_map, List.length_map, List.length_take]; omega) ?g9
      case g8 => walk_at "er"
      intro H5 e5
      have E5 : Ex H (upd H5 o (.lst (vis ((sizes.zipIdx.take i).map fun p => rsM (x - 1000000000000000000) sizes p.2 % p.1) ++ [.int (rsM (x - 1000000000000000000) sizes i % n)]))) := Ex.mut (e.trans e5) ho
      refine' a_setv1 (K := K) ?g10 ?g11
      case g10 => walk_at "er"
      intro H6 e6
      refine ⟨some (.int n), ?_, E5.trans e6, ?_⟩
      · rw [rsM_next hn]
        rfl
      · rw [e6 o _ upd_same, map_take_next (zipIdx_at hn), vis_app]
    · rintro σ' H' ⟨y, rfl, e, hO⟩
      refine ⟨.ref o, rfl, hk _ (upd G o (.lst (vis (digM x sizes)))) H' (Step.seal (Step.on hA e) ho (ex_out hA ho) ?_) ⟨o, rfl, upd_same⟩⟩
      rw [hO, List.length_map, List.take_of_length_le (by rw [List.length_zipIdx]; exact Nat.le_refl _)]
      unfold digM
      rw [if_pos hb']
      rfl
  case g5 =>
    intro hb H3 e3
    have hb' : ¬ 1000000000000000000 ≤ x := by simpa using hb
    refine' a_setv (K := K) ?g12 ?g13
    case g12 => walk_at "er"
    intro H4 e4
    have h4 := e4 o _ (e3 o _ h2)
    have E4 : Ex H H4 := ((e1.trans e2).trans e3).trans e4
    have hz4 := hzz.mono E4
    refine b_forR1 (K := K) (n := sizes.length) ?_ (by omega) (fun i σ' H' => ∃ y1 y2, σ' = [some (.int x), some (.ref pz), some (.ref o), some (.int x), none, some (.int (sdM (x % 2147483629) i)), y1, y2] ∧ Ex H H' ∧ H' o = some (.lst (vis ((sizes.zipIdx.take i).map fun p => twM (sdM (x % 2147483629) (p.2 + 1)) / 19 % p.1)))) (fun H5 e5 => ⟨none, none, rfl, E4.trans e5, e5 o _ h4⟩) ?_ ?_
    · walk_at "era"
    · rintro i σ' H' hi ⟨y1, y2, rfl, e, hO⟩
      have hn : sizes[i]? = some sizes[i] := List.getElem?_eq_getElem hi
      have hn2 := hpos sizes[i] (List.getElem_mem hi)
      have hg : sizes.getD i 0 = sizes[i] := by rw [List.getD_eq_getElem?_getD, hn]; rfl
      have hn3 : 0 < sizes.getD ((i : Nat) : Int).toNat 0 := by rw [Int.toNat_natCast, hg]; exact hn2.1
      have hzi := hzz.mono e
      generalize hsd : sdM (x % 2147483629) i = sd
      refine' a_setv (K := K) ?g14 ?g15
      case g14 => walk_at "er"
      intro H5 e5
      have hsd1 : sdM (x % 2147483629) (i + 1) = (sd * 48271 + 974711 * (i : Int) + 12345) % 2147483647 := by rw [← hsd]; rfl
      have hb1 : 0 ≤ (sd * 48271 + 974711 * (i : Int) + 12345) % 2147483647 := Int.emod_nonneg _ (by decide)
      have hb2 : (sd * 48271 + 974711 * (i : Int) + 12345) % 2147483647 < 2147483647 := Int.emod_lt_of_pos _ (by decide)
      generalize hsd2 : (sd * 48271 + 974711 * (i : Int) + 12345) % 2147483647 = sd2 at hsd1 hb1 hb2
      refine' a_setv (K := K) ?g16 ?g17
      case g16 => walk_at "er"
      intro H6 e6
      replace hzi := (hzi.mono e5).mono e6
      refine' a_app (K := K) (e6 o _ (e5 o _ hO)) (er_v rfl) ?g18 (by rw [List.length_map, List.length_map, List.length_take]; omega) ?g19
      case g18 => walk_at "er"
      intro H7 e7
      refine ⟨some (.int i), some (.int (twM sd2)), ?_, Ex.mut (((e.trans e5).trans e6).trans e7) ho, ?_⟩
      · rw [hsd1]
        rfl
      · rw [upd_same, map_take_next (zipIdx_at hn), vis_app, hsd1, Int.toNat_natCast, hg]
        rfl
    · rintro σ' H' ⟨y1, y2, rfl, e, hO⟩
      refine ⟨.ref o, rfl, hk _ (upd G o (.lst (vis (digM x sizes)))) H' (Step.seal (Step.on hA e) ho (ex_out hA ho) ?_) ⟨o, rfl, upd_same⟩⟩
      rw [hO, List.take_of_length_le (by rw [List.length_zipIdx]; exact Nat.le_refl _)]
      unfold digM
      rw [if_neg hb']
      rfl

/-! ### sets that are tried -/
abbrev s__law_tried : Stmt := topS 68
theorem sc__law_tried : FnScope ["script", "size", "stuck", "spots", "cell", "digit"] ["script", "size", "stuck"] (defScope s__law_tried) := ⟨rfl, rfl, rfl, by decide +kernel, rfl, by decide +kernel, by decide +kernel⟩

def sz30 : List Int := List.replicate 5 30
theorem sz30_ok : sz30.length ≤ 1000 ∧ ∀ s ∈ sz30, 0 < s ∧ s < 1000000 := by decide
def spotsM (ns : List Int) (size : Nat) : List Int := (digM (cellM ns 29) sz30).map fun d => d % (size : Int)
def someOf (ns : List Int) (size : Nat) : List Nat := (List.range size).filter fun c => decide (((c : Nat) : Int) ∈ spotsM ns size)
def triedM (ns : List Int) (size : Nat) (stuck : List Nat) : List (List Nat) := if size ≤ 5 then subsN (List.range size) else subsN (stuck.take 5) ++ subsN (someOf ns size) ++ [stuck]
theorem subsN_mem {cs : List Nat} : ∀ s ∈ subsN cs, ∀ c ∈ s, c ∈ cs := by
  have key : ∀ (l : List Nat) (acc : List (List Nat)) (P : Nat → Prop), (∀ s ∈ acc, ∀ c ∈ s, P c) → (∀ c ∈ l, P c) → ∀ s ∈ l.foldl (fun acc c => acc ++ acc.map fun s => s ++ [c]) acc, ∀ c ∈ s, P c := by
    intro l
    induction l with
    | nil => intro acc P h _; exact h
    | cons c r ih =>
      intro acc P h h2
      refine ih _ P ?_ (fun x hx => h2 x (List.mem_cons_of_mem _ hx))
      intro s hs
      rcases List.mem_append.mp hs with q | q
      · exact h s q
      · obtain ⟨t, ht, rfl⟩ := List.mem_map.mp q
        intro x hx
        rcases List.mem_append.mp hx with z | z
        · exact h t ht x z
        · rw [List.mem_singleton.mp z]
          exact h2 c (List.mem_cons_self ..)
  exact key cs [[]] (fun c => c ∈ cs) (by simp) (fun c hc => hc)
theorem few_of {α : Type} [DecidableEq α] : ∀ {l m : List α}, l.Nodup → (∀ x ∈ l, x ∈ m) → l.length ≤ m.length
  | [], _, _, _ => Nat.zero_le _
  | a :: r, m, hd, h => by
    have ha := h a (List.mem_cons_self ..)
    obtain ⟨h1, h2⟩ := List.nodup_cons.mp hd
    have := few_of (l := r) (m := m.erase a) h2 fun x hx => (List.mem_erase_of_ne (fun (e : x = a) => h1 (by rw [← e]; exact hx))).mpr (h x (List.mem_cons_of_mem _ hx))
    rw [List.length_erase_of_mem ha] at this
    have hp := List.length_pos_of_mem ha
    rw [List.length_cons]
    omega
theorem some_few (ns : List Int) (size : Nat) : (someOf ns size).length ≤ 5 := by
  have h : ((someOf ns size).map fun c : Nat => (c : Int)).length ≤ (spotsM ns size).length := by
    refine few_of ?_ ?_
    · exact List.pairwise_map.mpr ((List.Nodup.sublist List.filter_sublist List.nodup_range).imp fun h e => h (by omega))
    · intro x hx
      obtain ⟨c, hc, rfl⟩ := List.mem_map.mp hx
      exact of_decide_eq_true (List.mem_filter.mp hc).2
  rw [List.length_map] at h
  have e : (spotsM ns size).length = 5 := by
    unfold spotsM
    rw [List.length_map, digM_len]
    rfl
  omega
theorem tried_ok {ns : List Int} {size : Nat} {stuck : List Nat} (hs : stuck.length ≤ 100) (hc : ∀ c ∈ stuck, c < size) : (triedM ns size stuck).length ≤ 100 ∧ ∀ s ∈ triedM ns size stuck, s.length ≤ 100 ∧ ∀ c ∈ s, c < size := by
  unfold triedM
  by_cases h : size ≤ 5
  · rw [if_pos h]
    have f := subsN_few (cs := List.range size) (by rw [List.length_range]; exact h)
    refine ⟨by omega, fun s hs => ⟨?_, fun c hc => List.mem_range.mp (subsN_mem s hs c hc)⟩⟩
    have := (subsN_len (List.range size)).2 s hs
    rw [List.length_range] at this
    omega
  · rw [if_neg h]
    have f1 := subsN_few (cs := stuck.take 5) (by rw [List.length_take]; omega)
    have f2 := subsN_few (some_few ns size)
    refine ⟨by rw [List.length_append, List.length_append]; simp; omega, fun s hs2 => ?_⟩
    rcases List.mem_append.mp hs2 with hs2 | hs2
    · rcases List.mem_append.mp hs2 with hs2 | hs2
      · have := (subsN_len (stuck.take 5)).2 s hs2
        rw [List.length_take] at this
        exact ⟨by omega, fun c hcs => hc c (List.mem_of_mem_take (subsN_mem s hs2 c hcs))⟩
      · have := (subsN_len (someOf ns size)).2 s hs2
        have := some_few ns size
        exact ⟨by omega, fun c hcs => List.mem_range.mp (List.mem_filter.mp (subsN_mem s hs2 c hcs)).1⟩
    · rw [List.mem_singleton.mp hs2]
      exact ⟨hs, hc⟩
abbrev sp__law_tried (K : PySem.W.Frag) : Sp := spF K (fun a : List Int × Nat × List Nat => a.1.length ≤ 63 ∧ (1 ≤ a.2.1 ∧ a.2.1 ≤ 1000) ∧ a.2.2.length ≤ 1000) (fun a => [.l (vis a.1), .i (a.2.1 : Int), .n (cvs a.2.2)]) fun a => setsD (triedM a.1 a.2.1 a.2.2)
theorem has__law_tried (T : Txt K mg) (h : At K mg "_law_tried" s__law_tried ["script", "size", "stuck"]) (C__law_cell : Has P w K mg base 1 "_law_cell" ["script", "k"] (sp__law_cell K)) (C__law_digits : Has P w K mg base 1 "_law_digits" ["cell", "sizes"] (sp__law_digitsF K)) (C__law_subsets : Has P w K mg base 1 "_law_subsets" ["cells"] (sp__law_subsets K)) : Has P w K mg base 2 "_law_tried" ["script", "size", "stuck"] (sp__law_tried K) := by
  refine h.hasF sc__law_tried (fun _ => rfl) fun f cdv Ar outer s G A a vs Q E hr hp hA hv hk => ?_
  obtain ⟨ns, size, stuck⟩ := a
  obtain ⟨hn, ⟨z1, z2⟩, z3⟩ := hp
  replace hn : ns.length ≤ 63 := hn
  replace z1 : 1 ≤ size := z1
  replace z2 : size ≤ 1000 := z2
  replace z3 : stuck.length ≤ 1000 := z3
  rcases hv with _ | ⟨hs, _ | ⟨hz, _ | ⟨hx, _ | _⟩⟩⟩
  rename_i vs vz vx
  obtain rfl : vz = V.int (size : Int) := hz
  replace hs : Is K G (.l (vis ns)) vs := hs
  replace hx : Is K G (.n (cvs stuck)) vx := hx
  have sc := sc__law_tried
  refine ⟨_, (pss_cons (ps_if (pt_cmpR op_le (pv 1) pe_int (nomark _)) (pss_one (ps_ret (pe_callH C__law_subsets (hr.mono (by decide)) (pa_cons (pe_lc (own := [("cell", 4)]) (g := gName 4) (by rfl) sc.nd (pi_range1 (by rfl) T.b_range (pa_cons (pv 1) pa_nil)) (blkOk_by (N := ["script", "size", "stuck", "spots", "cell", "digit"]) (sc := defScope s__law_tried) (own := [("cell", 4)]) (by decide +kernel)) (fun _ _ _ _ _ => (pg_name (i := 4) sc.nd rfl (Or.inl rfl))) (fun _ _ _ _ _ => pts_nil) (fun _ _ _ _ _ => (pv 4))) pa_nil)))) pss_nil)
    (pss_cons (ps_set (i := 3) sc.nd rfl (Or.inr rfl) (pe_lc (own := [("digit", 5)]) (g := gName 5) (by rfl) sc.nd (pi_list_k (K := K) (pe_callH C__law_digits (hr.mono (by decide)) (pa_cons (pe_callH C__law_cell (hr.mono (by decide)) (pa_cons (pv 0) (pa_cons pe_int pa_nil))) (pa_cons (pe_op op_rep (pe_lst (pa_cons pe_int pa_nil)) pe_int) pa_nil)))) (blkOk_by (N := ["script", "size", "stuck", "spots", "cell", "digit"]) (sc := defScope s__law_tried) (own := [("digit", 5)]) (by decide +kernel)) (fun _ _ _ _ _ => (pg_name (i := 5) sc.nd rfl (Or.inl rfl))) (fun _ _ _ _ _ => pts_nil) (fun _ _ _ _ _ => (pe_op op_mod (pe_callTy cr_int (by rfl) T.b_int (by decide +kernel) (pa_cons (pv 5) pa_nil)) (pv 1)))))
    (pss_one (ps_ret (pe_op op_cat (pe_op op_cat (pe_callH C__law_subsets (hr.mono (by decide)) (pa_cons (pe_slice (sl_list_k (K := K)) (pv 2) po_none (po_some pe_int)) pa_nil)) (pe_callH C__law_subsets (hr.mono (by decide)) (pa_cons (pe_lc (own := [("cell", 4)]) (g := gName 4) (by rfl) sc.nd (pi_range1 (by rfl) T.b_range (pa_cons (pv 1) pa_nil)) (blkOk_by (N := ["script", "size", "stuck", "spots", "cell", "digit"]) (sc := defScope s__law_tried) (own := [("cell", 4)]) (by decide +kernel)) (fun _ _ _ _ _ => (pg_name (i := 4) sc.nd rfl (Or.inl rfl))) (fun _ _ _ _ _ => (pts_one (pt_cmpR (op_in_k (K := K)) (pv 4) (pv 3) rfl))) (fun _ _ _ _ _ => (pv 4))) pa_nil))) (pe_lst (pa_cons (pv 2) pa_nil))))))), ?_⟩
  have hk : ∀ v G' A', Step G A G' A' → Is K G' (setsD (triedM ns size stuck)) v → Q v A' := hk
  refine a_when (K := K) (b := decide (((size : Nat) : Int) ≤ 5)) (et1 (er_op (er_v rfl) er_c ro_I0)) (fun hb A1 e1 => ?_) fun hb A1 e1 => ?_
  · have h5 : size ≤ 5 := by
      have := of_decide_eq_true hb
      omega
    refine s_ret (K := K) (G := G) (ef_call (List.range size) (efa_cons (Ef.as (ef_lc (K := K) (its := List.range size) (inj := fun i : Nat => Dd.i (i : Int)) (vs := [4]) (fun _ => true) (fun i : Nat => Dd.i (i : Int)) (if_range (era_cons (er_v rfl) era_nil) (by omega)) (by rw [List.length_range]; omega) (fun i c v G' A' e3 e4 hi hv => ?_)) fun Hx v z => ?_) efa_nil) rfl (by show (List.range size).length ≤ 5; rw [List.length_range]; exact h5)) (hA.trans e1) ?_ fun v G' A' st z => hk v G' A' ((Step.on hA e1).trans st) z
    · exact ⟨_, fun Q q => q, rfl, fun H2 e Q q => q H2 (Ex.refl _), fun _ => ef_var rfl hv⟩
    · rw [filt_true] at z
      exact z.N2L
    · show setsD _ = setsD (triedM ns size stuck)
      unfold triedM
      rw [if_pos h5]
  · have h5 : ¬ size ≤ 5 := by
      have := of_decide_eq_false hb
      omega
    refine s_set (K := K) (G := G) (d := .n (vis (spotsM ns size))) (Ef.as (ef_lc (K := K) (its := digM (cellM ns 29) sz30) (inj := fun d => Dd.i d) (vs := [5]) (fun _ => true) (fun d => Dd.i (d % (size : Int))) (if_list (Ef.as (ef_call (cellM ns 29, sz30) (efa_cons (ef_flat (er_call (ns, 29) (era_cons (er_var rfl hs) (era_cons er_c era_nil)) rfl ⟨hn, show 29 ≤ 1000 by decide⟩)) (efa_cons (Ef.n2l (Ef.to (ef_op (ef_lstn (vs := [.int 30]) (era_cons er_c era_nil) (by simp)) (ef_flat er_c) (rof_rep (k := 5) (by simp) (by decide))) ?_)) efa_nil)) rfl sz30_ok) fun Hx v z => ?_)) (by rw [digM_len]; decide) (fun i d v G' A' e3 e4 hi hv => ?_)) fun Hx v z => ?_) (hA.trans e1) fun vsp G2 A2 s2 hsp => ?_
    · rfl
    · exact is_cast z.n2N.N2L (by rw [vis, List.map_map]; rfl)
    · obtain rfl : v = V.int d := hv
      exact ⟨_, fun Q q => q, rfl, fun H2 e Q q => q H2 (Ex.refl _), fun _ => ef_flat (er_op (er_cb (era_cons (er_v rfl) era_nil) rc_int) (er_v rfl) (ro_mod (by omega)))⟩
    · rw [filt_true] at z
      refine Is.N2n (xs := vis (spotsM ns size)) ?_
      unfold spotsM
      rw [vis, List.map_map, List.map_map]
      exact z
    have S2 := (Step.on hA e1).trans s2
    refine s_ret (K := K) (G := G2) (ef_op (ef_op (ef_call (stuck.take 5) (efa_cons (Ef.as (ef_slLTo (n := 5) (ds := stuck.map fun c : Nat => Dd.i (c : Int)) (Ef.as (ef_var rfl (hx.mono s2.g)) fun Hx v z => ?_) er_c) fun Hx v z => ?_) efa_nil) rfl (by show (stuck.take 5).length ≤ 5; rw [List.length_take]; omega)) (ef_call (someOf ns size) (efa_cons (Ef.as (ef_lc (K := K) (its := List.range size) (inj := fun i : Nat => Dd.i (i : Int)) (vs := [4]) (fun c => decide (((c : Nat) : Int) ∈ spotsM ns size)) (fun i : Nat => Dd.i (i : Int)) (if_range (era_cons (er_v rfl) era_nil) (by omega)) (by rw [List.length_range]; omega) (fun i c v G' A' e3 e4 hi hv => ?_)) fun Hx v z => z.N2L) efa_nil) rfl (some_few ns size)) (rf_cat ?_)) (ef_N (efa_cons (ef_var rfl (hx.mono s2.g)) efa_nil) (by simp)) (rf_cat ?_)) s2.v ?_ fun v G' A' st z => hk v G' A' (S2.trans st) z
    · exact is_cast z.n2N.N2L (by rw [cvs, List.map_map]; rfl)
    · rw [← List.map_take] at z
      exact z.N2L
    · obtain rfl : v = V.int (c : Int) := hv
      exact ⟨_, fun Q q => q, rfl, et1 (er_op (er_v rfl) (Er.n2l (er_var rfl ((hsp.mono e3).mono e4))) ro_inLi), fun _ => ef_flat (er_v rfl)⟩
    · have f1 := subsN_few (cs := stuck.take 5) (by rw [List.length_take]; omega)
      have f2 := subsN_few (some_few ns size)
      rw [List.length_map, List.length_map]
      omega
    · have f1 := subsN_few (cs := stuck.take 5) (by rw [List.length_take]; omega)
      have f2 := subsN_few (some_few ns size)
      rw [List.length_append, List.length_map, List.length_map]
      simp
      omega
    · show _ = setsD (triedM ns size stuck)
      unfold triedM setsD
      rw [if_neg h5, List.map_append, List.map_append]
      rfl
end
end Mi

set_option maxHeartbeats 4000000
namespace Mi
open PySem PySem.Spec PyProof.Rows L2 Evl
local macro_rules | `(tactic| walk_at "side") => `(tactic| (first | assumption | omega | exact rfl | decide | (simp only [List.length_cons, List.length_nil, List.length_map, List.length_append, List.length_replicate] <;> omega)))
local macro_rules | `(tactic| walk_at "ro") => `(tactic| (first
  | with_reducible exact ro_I0
  | with_reducible exact ro_1018
  | with_reducible exact ro_neC
  | with_reducible exact ro_eqC
  | with_reducible exact ro_neI
  | with_reducible exact ro_eqI
  | with_reducible exact ro_neB
  | with_reducible exact ro_eqB
  | ((with_reducible apply ro_mod); (walk_at "side"))
  | ((with_reducible apply ro_div) <;> (walk_at "side"))
  | ((with_reducible apply ro_divW) <;> (walk_at "side"))
  | with_reducible exact ro_1012
  | with_reducible exact ro_1015
  | ((with_reducible apply ro_mulL) <;> (walk_at "side"))
  | ((with_reducible apply ro_mulR) <;> (walk_at "side"))
  | ((with_reducible apply ro_addC); (walk_at "side"))
  | ((with_reducible apply ro_ixC) <;> (walk_at "side"))
  | ((with_reducible apply ro_ixI) <;> (walk_at "side"))
  | ((with_reducible apply ro_ixIN) <;> (walk_at "side"))
  | ((with_reducible apply ro_ixT2) <;> (walk_at "side"))
  | ((with_reducible apply ro_ixG) <;> (walk_at "side"))
  | ((with_reducible apply ro_eq); exact rfl)
  | ((with_reducible apply ro_ne); exact rfl)
  | with_reducible exact ro_isN
  | with_reducible exact ro_notN
  | with_reducible exact ro_eqL
  | with_reducible exact ro_neL
  | with_reducible exact ro_eqU
  | ((with_reducible apply ro_cat); (walk_at "side"))
  | with_reducible exact ro_inLi
  | with_reducible exact ro_inNi
  | with_reducible exact ro_inUi
  | ((with_reducible apply ro_inL) <;> (walk_at "side"))
  | ((with_reducible apply ro_inN) <;> (walk_at "side"))
  | ((with_reducible apply ro_inU) <;> (walk_at "side"))))
local macro_rules | `(tactic| walk_at "rc") => `(tactic| (first
  | with_reducible exact rc_int
  | with_reducible exact rc_intB
  | with_reducible exact rc_max2
  | ((with_reducible apply rc_lenC); (walk_at "side"))
  | with_reducible exact rc_lenI
  | with_reducible exact rc_lenT
  | with_reducible exact rc_lenIN
  | with_reducible exact rc_lenTN
  | with_reducible exact rc_lenL
  | with_reducible exact rc_lenN
  | with_reducible exact rc_lenU
  | with_reducible exact rc_listL
  | with_reducible exact rc_listU
  | with_reducible exact rc_tupL
  | with_reducible exact rc_tupN
  | ((with_reducible apply rc_isi_int); decide +kernel)
  | ((with_reducible apply rc_isi_str); decide +kernel)
  | ((with_reducible apply rc_isi_bl); decide +kernel)
  | ((with_reducible apply rc_isi_non); decide +kernel)
  | ((with_reducible apply rc_isi_u); decide +kernel)
  | ((with_reducible apply rc_isi_l); decide +kernel)))
local macro_rules | `(tactic| walk_at "er") => `(tactic| (first
  | ((with_reducible apply er_var); (exact rfl); assumption)
  | ((with_reducible apply er_v); exact rfl)
  | with_reducible exact er_c
  | ((with_reducible apply er_pick); (walk_at "er"); (walk_at "er"); (walk_at "er"))
  | ((with_reducible apply er_op); (walk_at "er"); (walk_at "er"); (walk_at "ro"))
  | ((with_reducible apply er_cb); (walk_at "era"); (walk_at "rc"))
  | ((with_reducible apply er_lst'); (walk_at "era"); (exact rfl); (walk_at "side"))
  | ((with_reducible apply er_tup'); (walk_at "era"); (exact rfl); (walk_at "side"))
  | ((with_reducible apply er_notV); (walk_at "er"))
  | ((with_reducible apply er_andV); (walk_at "er"); (intro _; (walk_at "er")))
  | ((with_reducible apply er_orV); (walk_at "er"); (intro _; (walk_at "er")))
  | ((with_reducible apply er_ite); (walk_at "et"); (intro _; (walk_at "er")); (intro _; (walk_at "er")))))
local macro_rules | `(tactic| walk_at "era") => `(tactic| (first
  | with_reducible exact era_nil
  | ((with_reducible apply era_cons); (walk_at "er"); (walk_at "era"))))
local macro_rules | `(tactic| walk_at "et") => `(tactic| (first
  | ((with_reducible apply et_an); (walk_at "et"); (intro _; (walk_at "et")))
  | ((with_reducible apply et_orr); (walk_at "et"); (intro _; (walk_at "et")))
  | ((with_reducible apply et_nt); (walk_at "et"))
  | ((with_reducible apply et1); (walk_at "er"))
  | ((with_reducible apply et2); (walk_at "er"))))

/-! ### what is asked of sets -/
theorem any_same {α : Type} {s t : List α} {p : α → Bool} (h : ∀ c, c ∈ t ↔ c ∈ s) : t.any p = s.any p := by
  rw [Bool.eq_iff_iff, List.any_eq_true, List.any_eq_true]
  exact ⟨fun ⟨x, hx, hp⟩ => ⟨x, (h x).mp hx, hp⟩, fun ⟨x, hx, hp⟩ => ⟨x, (h x).mpr hx, hp⟩⟩
theorem any_on {α : Type} {s : List α} {p q : α → Bool} (h : ∀ c ∈ s, p c = q c) : s.any p = s.any q := by
  rw [Bool.eq_iff_iff, List.any_eq_true, List.any_eq_true]
  exact ⟨fun ⟨x, hx, hp⟩ => ⟨x, hx, by rw [← h x hx]; exact hp⟩, fun ⟨x, hx, hp⟩ => ⟨x, hx, by rw [h x hx]; exact hp⟩⟩
theorem pos_any {α : Type} {l : List α} {q : α → Bool} : decide (((l.filter q).length : Int) > 0) = l.any q := by
  rw [Bool.eq_iff_iff, decide_eq_true_eq, List.any_eq_true]
  constructor
  · intro h
    obtain ⟨x, hx⟩ := List.exists_mem_of_length_pos (l := l.filter q) (by omega)
    exact ⟨x, (List.mem_filter.mp hx).1, (List.mem_filter.mp hx).2⟩
  · rintro ⟨x, hx, hq⟩
    have := List.length_pos_of_mem (List.mem_filter.mpr ⟨hx, hq⟩)
    omega
theorem zero_any {α : Type} {l : List α} {q : α → Bool} : decide (((l.filter q).length : Int) = 0) = !l.any q := by
  rw [← pos_any]
  by_cases h : ((l.filter q).length : Int) = 0
  · rw [decide_eq_true h, decide_eq_false (by omega)]
    rfl
  · rw [decide_eq_false h, decide_eq_true (by omega)]
    rfl
theorem breaks_is (shown cs : List Nat) (p : List Nat × List Nat) : breaks shown cs p = (cs.any (covC p.2) && !cs.any (diffC p.2 shown)) := by
  unfold breaks
  rw [pos_any, zero_any, List.any_filter]
  rfl
theorem fast_alike (sts : List (List Nat × List Nat)) (seen cs : List Nat) : fastM sts seen cs = fastL sts seen cs := by
  unfold fastM fastL
  congr 1
  rw [Bool.eq_iff_iff, List.all_eq_true, Bool.not_eq_true', List.any_eq_false]
  constructor
  · intro h p hp
    rw [breaks_is]
    cases hc : cs.any (covC p.2) with
    | false => exact Bool.false_ne_true
    | true =>
      have := h (cs.any (diffC p.2 seen)) (List.mem_map.mpr ⟨p, List.mem_filter.mpr ⟨hp, hc⟩, rfl⟩)
      rw [show cs.any (diffC p.2 seen) = true from this]
      exact Bool.false_ne_true
  · intro h b hb
    obtain ⟨p, hp, rfl⟩ := List.mem_map.mp hb
    obtain ⟨h1, h2⟩ := List.mem_filter.mp hp
    have := h p h1
    rw [breaks_is, h2, Bool.true_and] at this
    simpa using this
theorem fast_same {sts : List (List Nat × List Nat)} {seen s t : List Nat} (h : ∀ c, c ∈ t ↔ c ∈ s) : fastM sts seen t = fastM sts seen s := by
  unfold fastM
  rw [any_same h]
  congr 3
  · funext p
    exact any_same h
  · congr 1
    funext p
    exact any_same h
theorem ref_bars {sts : List (List Nat × List Nat)} {bs seen s t : List Nat} (h : ∀ c, c ∈ t ↔ c ∈ s) : refM sts bs seen t = barsM sts bs seen s := by
  unfold refM barsM
  rw [fast_same h, any_same h, pos_any, fast_alike]
  cases hf : fastL sts seen s with
  | false => rw [Bool.false_and, Bool.and_false]
  | true =>
    rw [Bool.true_and, Bool.and_true]
    have h2 : s.any (bareC seen) = false := by
      have : s.any (bareC seen) = false ∧ sts.any (breaks seen s) = false := by simpa [fastL] using hf
      exact this.1
    refine any_on fun c hc => ?_
    have hb : bareC seen c = false := by simpa using List.any_eq_false.mp h2 c hc
    have hb : decide (seen.getD c 0 = 45) = false := hb
    unfold mdC wrongB
    rw [hb, Bool.not_false, Bool.true_and]
theorem bars_all {sts : List (List Nat × List Nat)} {bs seen s : List Nat} (hl : ∀ p ∈ sts, p.2.length = seen.length) (hcs : ∀ c ∈ s, c < seen.length) (h : barsM sts bs seen s = true) : barsM sts bs seen (stuckOf sts seen) = true := by
  unfold barsM at h ⊢
  rw [pos_any, Bool.and_eq_true] at h
  obtain ⟨h1, h2⟩ := h
  have hst := fast_stays hl hcs h2 (n := marksN seen) (left := seen) rfl fun c _ => rfl
  have h3 : s.any (bareC seen) = false := by
    have : s.any (bareC seen) = false ∧ sts.any (breaks seen s) = false := by simpa [fastL] using h2
    exact this.1
  obtain ⟨c, hc, hw⟩ := List.any_eq_true.mp h1
  have hb : ¬ seen.getD c 0 = 45 := by
    have : bareC seen c = false := by simpa using List.any_eq_false.mp h3 c hc
    unfold bareC at this
    exact of_decide_eq_false this
  have hm : c ∈ stuckOf sts seen := stuck_mem.mpr ⟨hcs c hc, by
    show ¬ (walkP sts (marksN seen) seen).2.getD c 0 = 45
    rw [hst c hc]
    exact hb⟩
  rw [pos_any, List.any_eq_true.mpr ⟨c, hm, hw⟩, stuck_fast hl rfl (Nat.le_refl _)]
  rfl
theorem bars_clash {sts : List (List Nat × List Nat)} {bs seen : List Nat} (hl : ∀ p ∈ sts, p.2.length = seen.length) : barsM sts bs seen (stuckOf sts seen) = (clash sts bs seen).isSome := by
  obtain ⟨w1, w2, w3⟩ := walkP_end hl (n := marksN seen) (left := seen) rfl (Nat.le_refl _)
  unfold barsM
  rw [pos_any, stuck_fast hl rfl (Nat.le_refl _), Bool.and_true]
  unfold clash
  rw [List.isSome_find?]
  refine any_on fun c hc => ?_
  obtain ⟨h1, h2⟩ := stuck_mem.mp hc
  unfold wrongB mdC
  rw [decide_eq_false h2, Bool.not_false, Bool.true_and]
  rcases w2 c h1 with q | q
  · exact absurd q h2
  · rw [show (leftOf sts seen).getD c 0 = seen.getD c 0 from q]
section
variable {K : PySem.W.Frag} {σ : L2.St} {G H : Hp} {te tl tb : TE} {tr : TA} {ds : List Dd}
theorem ef_revL {xs : List V} (h : Ef K te σ G (.l xs)) : Ef K (tRevL K te) σ G (.n xs.reverse) := fun G1 A e1 e2 Q q =>
  h G1 A e1 e2 _ fun v G2 A2 s2 ⟨p, ev, hp⟩ => ⟨p, xs, ev, ex_l s2.v hp, fun l hl => q _ (upd G2 l (.lst xs.reverse)) _ (s2.trans (Step.new s2.v hl)) ⟨l, rfl, upd_same⟩⟩
theorem ef_slTo {n : Nat} {xs : List V} (h : Ef K te σ G (.l xs)) (h2 : Er K tb σ G (.i (n : Int))) : Ef K (tSl (rSlL K) te tNoPart (tPart tb)) σ G (.n (xs.take n)) := fun G1 A1 e1 e2 _ q =>
  h G1 A1 e1 e2 _ fun v G2 A2 s2 ⟨p, ep, hp⟩ => eo_non A2 (((e1.trans s2.g).trans s2.v)) _ fun A3 e3 => eo_of h2 A3 (((e1.trans s2.g).trans s2.v).trans e3) _ fun A4 e4 => by
    subst ep
    have s4 := s2.trans (Step.on s2.v (e3.trans e4))
    have ec : cutV xs none (some (n : Int)) = xs.take n := by
      unfold cutV
      rw [HT.sIx_none, HT.sIx_nat]
      rw [List.drop_zero, Nat.sub_zero, List.take_eq_take_iff]
      omega
    refine ⟨p, xs, rfl, ex_l s4.v hp, fun l hl => q _ (upd G2 l (.lst (xs.take n))) _ ?_ ⟨l, rfl, upd_same⟩⟩
    rw [ec]
    exact s4.trans (Step.new s4.v hl)
end
section
variable {P : Program} {w : World} {K : PySem.W.Frag} {mg : Str → Option Value} {base : Heap}
abbrev s__law_judged : Stmt := topS 69
theorem sc__law_judged : FnScope ["script", "built", "stamps", "base", "shown", "stuck", "bars", "head", "given", "some", "passed", "answer", "due"] ["script", "built", "stamps", "base", "shown", "stuck"] (defScope s__law_judged) := ⟨rfl, rfl, rfl, by decide +kernel, rfl, by decide +kernel, by decide +kernel⟩

def sz23 : List Int := [2, 3]
theorem sz23_ok : sz23.length ≤ 1000 ∧ ∀ s ∈ sz23, 0 < s ∧ s < 1000000 := by decide
abbrev sp__law_judged (K : PySem.W.Frag) (C : Addr) : Sp := spR K (fun a : List Int × List (List Nat × List Nat) × List Nat × List Nat => a.1.length ≤ 63 ∧ SceneP a.2.2.2.length a.2.1 a.2.2.1 a.2.2.2 ∧ 1 ≤ a.2.2.2.length ∧ a.2.2.2.length ≤ 100) (fun a => [.l (vis a.1), stockC K C (a.2.2.2.length : Int) a.2.1, .L (stD a.2.1), .s (S a.2.2.1), .s (S a.2.2.2), .n (cvs (stuckOf a.2.1 a.2.2.2))]) fun _ => .b true
theorem has__law_judged {C : Addr} (T : Txt K mg) (h : At K mg "_law_judged" s__law_judged ["script", "built", "stamps", "base", "shown", "stuck"]) (C__law_bars : Has P w K mg base 2 "_law_bars" ["stamps", "base", "shown", "cells"] (sp__law_bars K)) (C__law_cell : Has P w K mg base 1 "_law_cell" ["script", "k"] (sp__law_cell K)) (C__law_digits : Has P w K mg base 1 "_law_digits" ["cell", "sizes"] (sp__law_digits K)) (C__law_tried : Has P w K mg base 2 "_law_tried" ["script", "size", "stuck"] (sp__law_tried K)) (C_is_refusal : Has P w K mg base 3 "is_refusal" ["stock", "start", "seen", "chosen"] (sp_is_refusal K C)) (W_is_refusal : HasW P w K mg base 3 "is_refusal" ["stock", "start", "seen", "chosen"] (sp_is_refusal K C)) : Has P w K mg base 4 "_law_judged" ["script", "built", "stamps", "base", "shown", "stuck"] (sp__law_judged K C) := by
  refine h.hasR sc__law_judged (fun _ => rfl) fun f cdv A outer s H a vs Q E hr hp hv hk => ?_
  obtain ⟨ns, sts, bs, seen⟩ := a
  obtain ⟨hn, hp, z1, z2⟩ := hp
  replace hn : ns.length ≤ 63 := hn
  replace hp : SceneP seen.length sts bs seen := hp
  replace z1 : 1 ≤ seen.length := z1
  replace z2 : seen.length ≤ 100 := z2
  rcases hv with _ | ⟨hs, _ | ⟨hb, _ | ⟨hst, _ | ⟨hbs, _ | ⟨hsn, _ | ⟨hx, _ | _⟩⟩⟩⟩⟩⟩
  rename_i vs vb vst vbs vsn vx
  obtain rfl : vbs = V.str (S bs) := hbs
  obtain rfl : vsn = V.str (S seen) := hsn
  replace hs : Is K H (.l (vis ns)) vs := hs
  replace hb : Is K H (stockC K C (seen.length : Int) sts) vb := hb
  replace hst : Is K H (.L (stD sts)) vst := hst
  replace hx : Is K H (.n (cvs (stuckOf sts seen))) vx := hx
  have sc := sc__law_judged
  have sl := hp.sl
  have lot := hp.st.lot
  have few := lot.few
  have hmem : ∀ c ∈ stuckOf sts seen, c < seen.length := fun c hc => (stuck_mem.mp hc).1
  have hsl : (stuckOf sts seen).length ≤ 100 := by
    refine Nat.le_trans (List.length_filter_le _ _) ?_
    rw [List.length_range]
    exact z2
  obtain ⟨t1, t2⟩ := tried_ok (ns := ns) hsl hmem
  have cells : ∀ cs : List Nat, cs.length ≤ 1000 → (∀ c ∈ cs, c < seen.length) → CellsOk seen.length sts seen cs := fun cs h1 h2 => ⟨few, lot.st, rfl, by omega, h1, h2⟩
  have hall : ∀ s, (∀ c ∈ s, c < seen.length) → barsM sts bs seen s = true → barsM sts bs seen (stuckOf sts seen) = true := fun s h1 h2 => bars_all lot.st h1 h2
  refine ⟨_, (pss_cons (ps_set (i := 6) sc.nd rfl (Or.inl rfl) (pe_callH C__law_bars (hr.mono (by decide)) (pa_cons (pv 2) (pa_cons (pv 3) (pa_cons (pv 4) (pa_cons (pv 5) pa_nil))))))
    (pss_cons (ps_set (i := 7) sc.nd rfl (Or.inl rfl) (pe_callH C__law_digits (hr.mono (by decide)) (pa_cons (pe_callH C__law_cell (hr.mono (by decide)) (pa_cons (pv 0) (pa_cons pe_int pa_nil))) (pa_cons (pe_lst (pa_cons pe_int (pa_cons pe_int pa_nil))) pa_nil))))
    (pss_cons (ps_set (i := 8) sc.nd rfl (Or.inl rfl) (pe_lst pa_nil))
    (pss_cons (ps_for PassesOwn.never rfl (pi_list_k (K := K) (pe_callH C__law_tried (hr.mono (by decide)) (pa_cons (pv 0) (pa_cons (pe_callB cr_lenStr (by rfl) T.b_len (by decide +kernel) (pa_cons (pv 4) pa_nil)) (pa_cons (pv 5) pa_nil))))) (pg_name (i := 9) sc.nd rfl (Or.inl rfl)) (pss_cons (ps_set (i := 10) sc.nd rfl (Or.inl rfl) (pe_op op_cat (pe_revL_k (K := K) (pv 9)) (pe_slice (sl_list_k (K := K)) (pv 9) po_none (po_some (pe_callTy cr_int (by rfl) T.b_int (by decide +kernel) (pa_cons (pe_ix (ix_list_k (K := K)) (pv 7) pe_int (fun _ _ => rfl)) pa_nil))))))
    (pss_cons (ps_expr (pe_bm0_k (K := K) PySem.F.plainAttrs_list PySem.F.slot_list_clear PySem.F.type_list_clear mt_clear (pv 8)))
    (pss_cons (ps_expr (pe_bm_k (K := K) PySem.F.plainAttrs_list PySem.F.slot_list_extend PySem.F.type_list_extend mt_extend (pv 8) (pa_cons (pv 10) pa_nil)))
    (pss_cons (ps_if (pt_cmpR op_eq (pe_ix (ix_list_k (K := K)) (pv 7) pe_int (fun _ _ => rfl)) pe_int (nomark _)) (pss_one (ps_set (i := 11) sc.nd rfl (Or.inl rfl) (pe_callH C_is_refusal (hr.mono (by decide)) (pa_cons (pv 1) (pa_cons (pv 3) (pa_cons (pv 4) (pa_cons (pv 8) pa_nil))))))) (pss_one (ps_set (i := 11) sc.nd rfl (Or.inl rfl) (pe_callW W_is_refusal (hr.mono (by decide)) (pk_cons (pe_callTy (cr_tuple_k (K := K)) (by rfl) T.b_tuple (by decide +kernel) (pa_cons (pv 8) pa_nil)) (pk_cons (pv 4) (pk_cons (pv 3) (pk_cons (pv 1) pk_nil))))))))
    (pss_cons (ps_set (i := 12) sc.nd rfl (Or.inl rfl) (pe_callH C__law_bars (hr.mono (by decide)) (pa_cons (pv 2) (pa_cons (pv 3) (pa_cons (pv 4) (pa_cons (pv 9) pa_nil))))))
    (pss_one (ps_if (PW.pt (pw_or (pt_not (pt_val (pe_callB (cr_isi_k (K := K)) (by rfl) T.b_isinstance (by decide +kernel) (pa_cons (pv 11) (pa_cons (pe_bltn (v := .ty "bool") (by rfl) T.b_bool (by decide +kernel) rfl) pa_nil))))) (pw_or (pt_cmpR op_ne (pv 11) (pv 12) (nomark _)) (pw_or (pt_cmpR (op_neD_k (K := K) hr.units) (pv 8) (pv 10) (nomark _)) (pw_or1 (PW.pt (pw_and (pt_val (pv 12)) (pw_and1 (pt_not (pt_val (pv 6))))))))))) (pss_one (ps_ret pe_bl)) pss_nil))))))))
    (pss_one (ps_ret pe_bl)))))), ?_⟩
  refine a_setv (K := K) (x := .bl (barsM sts bs seen (stuckOf sts seen))) (er_call ((seen.length, sts), bs, seen, stuckOf sts seen) (era_cons (er_var rfl hst) (era_cons (er_v rfl) (era_cons (er_v rfl) (era_cons (Er.n2l (er_var rfl hx)) era_nil)))) rfl ⟨cells (stuckOf sts seen) (by omega) hmem, sl⟩) fun H1 e1 => ?_
  refine a_asg (K := K) (er_call (cellM ns 30, sz23) (era_cons (er_call (ns, 30) (era_cons (er_var rfl (hs.mono e1)) (era_cons er_c era_nil)) rfl ⟨hn, show 30 ≤ 1000 by decide⟩) (era_cons (Er.n2l (er_lst (vs := vis sz23) (era_cons er_c (era_cons er_c era_nil)) (by decide))) era_nil)) rfl sz23_ok) fun vh H2 e2 hh => ?_
  replace hh : Is K H2 (.n (vis (digM (cellM ns 30) sz23))) vh := hh
  have lh : (digM (cellM ns 30) sz23).length = 2 := digM_len _ _
  have b1 : 0 ≤ (digM (cellM ns 30) sz23).getD 1 0 ∧ (digM (cellM ns 30) sz23).getD 1 0 < 3 := digM_bd (by decide) (i := 1) (by decide)
  generalize digM (cellM ns 30) sz23 = hd at hh lh b1
  have E2 := e1.trans e2
  have hs2 := hs.mono E2
  have hb2 := hb.mono E2
  have hst2 := hst.mono E2
  have hx2 := hx.mono E2
  have hN : (((hd.getD 1 0).toNat : Nat) : Int) = hd.getD 1 0 := Int.toNat_of_nonneg b1.1
  have hN3 : (hd.getD 1 0).toNat < 3 := by omega
  generalize hkn : (hd.getD 1 0).toNat = kn at hN hN3
  have athd : ∀ {σ : L2.St} {H' : Hp} {j : Nat}, Ex H2 H' → σ[7]? = some (some vh) → j < 2 → Er K (tOp (rIxL K) (tVar 7) (tC (.int (j : Int)))) σ H' (.i (hd.getD j 0)) := fun {σ H' j} e q hj => er_numN (er_var q (hh.mono e)) er_c (by omega)
  refine s_new (G := H2) (Ex.refl H2) fun l A1 hl0 hg0 s1 hl1 => ?_
  refine b_for (K := K) (G := H2) (ds := (triedM ns seen.length (stuckOf sts seen)).map fun s => Dd.n (cvs s)) (if_list (Ef.as (ef_call (ns, seen.length, stuckOf sts seen) (efa_cons (ef_var rfl hs2) (efa_cons (ef_flat (Er.to (er_cb (era_cons (er_v (x := .str (S seen)) rfl) era_nil) (rc_lenS (z := S seen) (by rw [S_len]; omega))) (by rw [S_len]))) (efa_cons (ef_var rfl hx2) efa_nil))) rfl ⟨hn, ⟨z1, by show seen.length ≤ 1000; omega⟩, by show (stuckOf sts seen).length ≤ 1000; omega⟩) fun Hx v z => Is.N2L z)) s1.v (fun i σ' G' A' => ∃ zs o9 o10 o11 o12, σ' = [some vs, some vb, some vst, some (.str (S bs)), some (.str (S seen)), some vx, some (.bl (barsM sts bs seen (stuckOf sts seen))), some vh, some (.ref l), o9, o10, o11, o12] ∧ G' l = none ∧ A' l = some (.lst zs) ∧ Step H2 H2 G' A') (fun G2 A2 s2 => ⟨[], none, none, none, none, rfl, s2.f l (by rw [hl1]; simp) hg0, s2.a l _ hl1, s1.trans s2⟩) ?_ ?_
  · rintro G2 eg i d v σ' G' A' G3 A3 hd3 ⟨zs, o9, o10, o11, o12, rfl, g1, a1, st⟩ e3 e4 s3 hv
    obtain ⟨t, ht, rfl⟩ : ∃ t, (triedM ns seen.length (stuckOf sts seen))[i]? = some t ∧ Dd.n (cvs t) = d := by
      rw [List.getElem?_map] at hd3
      cases q : (triedM ns seen.length (stuckOf sts seen))[i]? with
      | none => rw [q] at hd3; cases hd3
      | some t => rw [q] at hd3; exact ⟨t, rfl, Option.some.inj hd3⟩
    obtain ⟨tl, tc⟩ := t2 t (List.mem_of_getElem? ht)
    have a3 := s3.a l _ a1
    have g3 := s3.f l (by rw [a1]; simp) g1
    have S3 := st.trans s3
    have hPl : (t.reverse ++ t.take kn).length ≤ 1000 := by
      rw [List.length_append, List.length_reverse, List.length_take]
      omega
    have hPm : ∀ c, c ∈ t.reverse ++ t.take kn ↔ c ∈ t := fun c => by
      rw [List.mem_append, List.mem_reverse]
      exact ⟨fun h => h.elim id List.mem_of_mem_take, .inl⟩
    have hrb : refM sts bs seen (t.reverse ++ t.take kn) = barsM sts bs seen t := ref_bars hPm
    refine s_set (K := K) (G := G3) (d := .n (cvs (t.reverse ++ t.take kn))) (Ef.to (ef_op (ef_revL (Ef.n2l (ef_var rfl hv))) (ef_slTo (n := kn) (Ef.n2l (ef_var rfl hv)) (Er.to (er_cb (era_cons (athd (j := 1) S3.g rfl (by decide)) era_nil) rc_int) (by rw [hN]))) (rof_cat (by rw [List.length_reverse, List.length_take, cvs, List.length_map]; omega))) (by rw [cvs, cvs, List.map_append, List.map_reverse, List.map_take])) s3.v fun vp G4 A4 s4 hvp => ?_
    have a4 := s4.a l _ a3
    have g4 := s4.f l (by rw [a3]; simp) g3
    have S4 := S3.trans s4
    generalize t.reverse ++ t.take kn = pl at hvp hPl hPm hrb
    refine s_clear (K := K) a4 (er_v rfl) fun H5 e5 => ?_
    have V5 : Ex G4 (upd H5 l (.lst [])) := Ex.mut (S4.v.trans e5) g4
    refine s_extend (K := K) (zs := cvs pl) upd_same (er_v rfl) (era_cons (er_var rfl (hvp.mono V5)) era_nil) (by rw [cvs, List.length_map]; simp; omega) fun H6 e6 => ?_
    have V6 : Ex G4 (upd H6 l (.lst ([] ++ cvs pl))) := Ex.mut (V5.trans e6) g4
    rw [List.nil_append] at V6 ⊢
    have S6 : Step H2 H2 G4 (upd H6 l (.lst (cvs pl))) := (((S4.trans (Step.on S4.v e5)).grow hl0 g4).trans (Step.on V5 e6)).grow hl0 g4
    have hl6 : upd H6 l (.lst (cvs pl)) l = some (.lst (cvs pl)) := upd_same
    generalize upd H6 l (.lst (cvs pl)) = A6 at V6 S6 hl6
    have hgv : Is K A6 (csD false pl) (.ref l) := by
      show Is K A6 (.L (pl.map fun c : Nat => Dd.i (c : Int))) (.ref l)
      exact is_cast (Is.l2L (xs := cvs pl) ⟨l, rfl, sq_of hl6⟩) (by rw [cvs, List.map_map]; rfl)
    have pok : CellsOk seen.length sts seen pl := cells pl hPl fun c hc => tc c ((hPm c).mp hc)
    refine a_ifElse (K := K) (b := decide (hd.getD 0 0 = 0)) (d := .b (refM sts bs seen pl)) (et1 (er_op (athd (j := 0) S6.a rfl (by decide)) er_c ro_eqI)) (fun _ => er_callF ((seen.length, sts), (bs, seen), false, pl) (era_cons (Er.as (er_var rfl (hb2.mono S6.a)) fun Hx v z => stockC_D z) (era_cons (er_v rfl) (era_cons (er_v rfl) (era_cons (er_var rfl hgv) era_nil)))) rfl ⟨pok, sl⟩) (fun _ => er_callWF ((seen.length, sts), (bs, seen), true, pl) (era_cons (Er.to (er_cb (era_cons (er_var rfl hgv) era_nil) (rc_tupLd (ds := pl.map fun c : Nat => Dd.i (c : Int)))) rfl) (era_cons (er_v rfl) (era_cons (er_v rfl) (era_cons (Er.as (er_var rfl (hb2.mono S6.a)) fun Hx v z => stockC_D z) era_nil)))) rfl ⟨pok, sl⟩) fun v11 H7 e7 h11 => ?_
    obtain rfl : v11 = V.bl (refM sts bs seen pl) := h11
    refine a_setv (K := K) (x := .bl (barsM sts bs seen t)) (er_call ((seen.length, sts), bs, seen, t) (era_cons (er_var rfl (hst2.mono (S6.a.trans e7))) (era_cons (er_v rfl) (era_cons (er_v rfl) (era_cons (Er.n2l (er_var rfl (hv.mono (s4.g.trans (V6.trans e7))))) era_nil)))) rfl ⟨cells t (by omega) tc, sl⟩) fun H8 e8 => ?_
    have E8 := e7.trans e8
    refine a_when1 (K := K) (b := !true || (!decide (refM sts bs seen pl = barsM sts bs seen t) || (!decide (intsM pl = intsM pl) || (barsM sts bs seen t && !barsM sts bs seen (stuckOf sts seen))))) (et_orr (et_nt (et2 (er_cb (era_cons (er_v rfl) (era_cons er_c era_nil)) (rc_isi_bl (b := true) (by decide +kernel))))) fun _ => et_orr (et1 (er_op (er_v rfl) (er_v rfl) ro_neB)) fun _ => et_orr (et1 (er_op (d1 := .l (vis (intsM pl))) (d2 := .l (vis (intsM pl))) (Er.n2l (Er.to (er_var (d := .n (cvs pl)) rfl ⟨l, rfl, E8 l _ hl6⟩) (by rw [cvs_vis]))) (Er.n2l (Er.to (er_var rfl (hvp.mono (V6.trans E8))) (by rw [cvs_vis]))) ro_neL)) fun _ => et_an (et2 (er_v rfl)) fun _ => et_nt (et2 (er_v rfl))) (fun z => absurd z ?_) fun _ H9 e9 => ?_
    · rw [hrb]
      cases hbt : barsM sts bs seen t with
      | false => simp
      | true => simp [hall t tc hbt]
    · exact ⟨G4, ⟨cvs pl, _, _, _, _, rfl, g4, (E8.trans e9) l _ hl6, S6.trans (Step.on V6 (E8.trans e9))⟩, e3.trans (s3.g.trans s4.g), V6.trans (E8.trans e9)⟩
  · rintro σ' G' A' e1 e2 ⟨zs, o9, o10, o11, o12, rfl, g1, a1, st⟩
    exact a_rete (K := K) er_c rfl (E2.trans st.a) hk
end
end Mi

set_option maxHeartbeats 4000000
namespace Mi
open PySem PySem.Spec PyProof.Rows L2 Evl
local macro_rules | `(tactic| walk_at "side") => `(tactic| (first | assumption | omega | exact rfl | decide | (simp only [List.length_cons, List.length_nil, List.length_map, List.length_append, List.length_replicate] <;> omega)))
local macro_rules | `(tactic| walk_at "ro") => `(tactic| (first
  | with_reducible exact ro_I0
  | with_reducible exact ro_1018
  | with_reducible exact ro_neC
  | with_reducible exact ro_eqC
  | with_reducible exact ro_neI
  | with_reducible exact ro_eqI
  | with_reducible exact ro_neB
  | with_reducible exact ro_eqB
  | ((with_reducible apply ro_mod); (walk_at "side"))
  | ((with_reducible apply ro_div) <;> (walk_at "side"))
  | ((with_reducible apply ro_divW) <;> (walk_at "side"))
  | with_reducible exact ro_1012
  | with_reducible exact ro_1015
  | ((with_reducible apply ro_mulL) <;> (walk_at "side"))
  | ((with_reducible apply ro_mulR) <;> (walk_at "side"))
  | ((with_reducible apply ro_addC); (walk_at "side"))
  | ((with_reducible apply ro_ixC) <;> (walk_at "side"))
  | ((with_reducible apply ro_ixI) <;> (walk_at "side"))
  | ((with_reducible apply ro_ixIN) <;> (walk_at "side"))
  | ((with_reducible apply ro_ixT2) <;> (walk_at "side"))
  | ((with_reducible apply ro_ixG) <;> (walk_at "side"))
  | ((with_reducible apply ro_eq); exact rfl)
  | ((with_reducible apply ro_ne); exact rfl)
  | with_reducible exact ro_isN
  | with_reducible exact ro_notN
  | with_reducible exact ro_eqL
  | with_reducible exact ro_neL
  | with_reducible exact ro_eqU
  | ((with_reducible apply ro_cat); (walk_at "side"))
  | with_reducible exact ro_inLi
  | with_reducible exact ro_inNi
  | with_reducible exact ro_inUi
  | ((with_reducible apply ro_inL) <;> (walk_at "side"))
  | ((with_reducible apply ro_inN) <;> (walk_at "side"))
  | ((with_reducible apply ro_inU) <;> (walk_at "side"))))
local macro_rules | `(tactic| walk_at "rc") => `(tactic| (first
  | with_reducible exact rc_int
  | with_reducible exact rc_intB
  | with_reducible exact rc_max2
  | ((with_reducible apply rc_lenC); (walk_at "side"))
  | with_reducible exact rc_lenI
  | with_reducible exact rc_lenT
  | with_reducible exact rc_lenIN
  | with_reducible exact rc_lenTN
  | with_reducible exact rc_lenL
  | with_reducible exact rc_lenN
  | with_reducible exact rc_lenU
  | with_reducible exact rc_listL
  | with_reducible exact rc_listU
  | with_reducible exact rc_tupL
  | with_reducible exact rc_tupN
  | ((with_reducible apply rc_isi_int); decide +kernel)
  | ((with_reducible apply rc_isi_str); decide +kernel)
  | ((with_reducible apply rc_isi_bl); decide +kernel)
  | ((with_reducible apply rc_isi_non); decide +kernel)
  | ((with_reducible apply rc_isi_u); decide +kernel)
  | ((with_reducible apply rc_isi_l); decide +kernel)))
local macro_rules | `(tactic| walk_at "er") => `(tactic| (first
  | ((with_reducible apply er_var); (exact rfl); assumption)
  | ((with_reducible apply er_v); exact rfl)
  | with_reducible exact er_c
  | ((with_reducible apply er_pick); (walk_at "er"); (walk_at "er"); (walk_at "er"))
  | ((with_reducible apply er_op); (walk_at "er"); (walk_at "er"); (walk_at "ro"))
  | ((with_reducible apply er_cb); (walk_at "era"); (walk_at "rc"))
  | ((with_reducible apply er_lst'); (walk_at "era"); (exact rfl); (walk_at "side"))
  | ((with_reducible apply er_tup'); (walk_at "era"); (exact rfl); (walk_at "side"))
  | ((with_reducible apply er_notV); (walk_at "er"))
  | ((with_reducible apply er_andV); (walk_at "er"); (intro _; (walk_at "er")))
  | ((with_reducible apply er_orV); (walk_at "er"); (intro _; (walk_at "er")))
  | ((with_reducible apply er_ite); (walk_at "et"); (intro _; (walk_at "er")); (intro _; (walk_at "er")))))
local macro_rules | `(tactic| walk_at "era") => `(tactic| (first
  | with_reducible exact era_nil
  | ((with_reducible apply era_cons); (walk_at "er"); (walk_at "era"))))
local macro_rules | `(tactic| walk_at "et") => `(tactic| (first
  | ((with_reducible apply et_an); (walk_at "et"); (intro _; (walk_at "et")))
  | ((with_reducible apply et_orr); (walk_at "et"); (intro _; (walk_at "et")))
  | ((with_reducible apply et_nt); (walk_at "et"))
  | ((with_reducible apply et1); (walk_at "er"))
  | ((with_reducible apply et2); (walk_at "er"))))

section
variable {P : Program} {w : World} {K : PySem.W.Frag} {mg : Str → Option Value} {base : Heap}
theorem has_making {C CP CM fM : Addr} {fdM : FuncData} (T : Txt K mg) (TP : PeTxt K mg CP) (TM : MkTxt K mg CM) (h : At K mg "making" s_making ["stock", "start", "seen"]) (C_peeling : Has P w K mg base 3 "peeling" ["stock", "seen"] (sp_peeling K C CP)) (C_cells_of : Has P w K mg base 1 "cells_of" ["one"] (sp_cells K)) (C_marks_differ : Has P w K mg base 1 "marks_differ" ["one", "two", "cell"] (sp_marks K)) (M_initM : Mk K CM fM) (F_initM : FnOk P w K mg base CX0 1 fM fdM ["self", "made", "row", "cells", "cell"] (spInitM K CM)) (b_initM : Binds K fdM ["self", "made", "row", "cells", "cell"] []) : Has P w K mg base 4 "making" ["stock", "start", "seen"] (sp_making K C CM) := h.has fun F => fn_making T TP TM F C_peeling C_cells_of C_marks_differ M_initM F_initM b_initM
theorem hasW_making {C CP CM fM : Addr} {fdM : FuncData} (T : Txt K mg) (TP : PeTxt K mg CP) (TM : MkTxt K mg CM) (h : AtW K mg "making" s_making ["stock", "start", "seen"]) (C_peeling : Has P w K mg base 3 "peeling" ["stock", "seen"] (sp_peeling K C CP)) (C_cells_of : Has P w K mg base 1 "cells_of" ["one"] (sp_cells K)) (C_marks_differ : Has P w K mg base 1 "marks_differ" ["one", "two", "cell"] (sp_marks K)) (M_initM : Mk K CM fM) (F_initM : FnOk P w K mg base CX0 1 fM fdM ["self", "made", "row", "cells", "cell"] (spInitM K CM)) (b_initM : Binds K fdM ["self", "made", "row", "cells", "cell"] []) : HasW P w K mg base 4 "making" ["stock", "start", "seen"] (sp_making K C CM) := h.has fun F => fn_making T TP TM F C_peeling C_cells_of C_marks_differ M_initM F_initM b_initM
theorem has_is_refusal {C : Addr} (T : Txt K mg) (h : At K mg "is_refusal" s_is_refusal ["stock", "start", "seen", "chosen"]) (C_is_fast : Has P w K mg base 2 "is_fast" ["stock", "seen", "chosen"] (sp_is_fast K C)) (C_marks_differ : Has P w K mg base 1 "marks_differ" ["one", "two", "cell"] (sp_marks K)) : Has P w K mg base 3 "is_refusal" ["stock", "start", "seen", "chosen"] (sp_is_refusal K C) := h.has fun F => fn_is_refusal T F C_is_fast C_marks_differ
theorem hasW_is_refusal {C : Addr} (T : Txt K mg) (h : AtW K mg "is_refusal" s_is_refusal ["stock", "start", "seen", "chosen"]) (C_is_fast : Has P w K mg base 2 "is_fast" ["stock", "seen", "chosen"] (sp_is_fast K C)) (C_marks_differ : Has P w K mg base 1 "marks_differ" ["one", "two", "cell"] (sp_marks K)) : HasW P w K mg base 3 "is_refusal" ["stock", "start", "seen", "chosen"] (sp_is_refusal K C) := h.has fun F => fn_is_refusal T F C_is_fast C_marks_differ
abbrev s__law_told : Stmt := topS 70
theorem sc__law_told : FnScope ["script", "built", "stamps", "base", "shown", "actual", "stay", "stuck", "cell"] ["script", "built", "stamps", "base", "shown"] (defScope s__law_told) := ⟨rfl, rfl, rfl, by decide +kernel, rfl, by decide +kernel, by decide +kernel⟩

theorem madD_none {CM : Addr} {sts : List (List Nat × List Nat)} {bs seen : List Nat} (h : clash sts bs seen = none) : madD K CM sts bs seen = mkE K CM (rowOf sts seen).reverse := by
  unfold madD
  rw [h]
  rfl
theorem madD_some {CM : Addr} {sts : List (List Nat × List Nat)} {bs seen : List Nat} {c : Nat} (h : clash sts bs seen = some c) : madD K CM sts bs seen = mkB K CM (stuckOf sts seen) c := by
  unfold madD
  rw [h]
  rfl
abbrev sp__law_told (K : PySem.W.Frag) (C : Addr) : Sp := spR K (fun a : List Int × List (List Nat × List Nat) × List Nat × List Nat => a.1.length ≤ 63 ∧ SceneP a.2.2.2.length a.2.1 a.2.2.1 a.2.2.2 ∧ 1 ≤ a.2.2.2.length ∧ a.2.2.2.length ≤ 100) (fun a => [.l (vis a.1), stockC K C (a.2.2.2.length : Int) a.2.1, .L (stD a.2.1), .s (S a.2.2.1), .s (S a.2.2.2)]) fun _ => .b true
theorem has__law_told {C CM : Addr} (T : Txt K mg) (TM : MkTxt K mg CM) (h : At K mg "_law_told" s__law_told ["script", "built", "stamps", "base", "shown"]) (C_making : Has P w K mg base 4 "making" ["stock", "start", "seen"] (sp_making K C CM)) (W_making : HasW P w K mg base 4 "making" ["stock", "start", "seen"] (sp_making K C CM)) (C__law_shows : Has P w K mg base 5 "_law_shows" ["stamps", "base", "shown", "actual"] (sp__law_shows K CM)) (C__law_peel : Has P w K mg base 3 "_law_peel" ["stamps", "shown"] (sp__law_peel K)) (C__law_bars : Has P w K mg base 2 "_law_bars" ["stamps", "base", "shown", "cells"] (sp__law_bars K)) (C_is_refusal : Has P w K mg base 3 "is_refusal" ["stock", "start", "seen", "chosen"] (sp_is_refusal K C)) (C__law_judged : Has P w K mg base 4 "_law_judged" ["script", "built", "stamps", "base", "shown", "stuck"] (sp__law_judged K C)) : Has P w K mg base 6 "_law_told" ["script", "built", "stamps", "base", "shown"] (sp__law_told K C) := by
  refine h.hasR sc__law_told (fun _ => rfl) fun f cdv A outer s H a vs Q E hr hp hv hk => ?_
  obtain ⟨ns, sts, bs, seen⟩ := a
  obtain ⟨hn, hp, z1, z2⟩ := hp
  replace hn : ns.length ≤ 63 := hn
  replace hp : SceneP seen.length sts bs seen := hp
  replace z1 : 1 ≤ seen.length := z1
  replace z2 : seen.length ≤ 100 := z2
  rcases hv with _ | ⟨hs, _ | ⟨hb, _ | ⟨hst, _ | ⟨rfl, _ | ⟨rfl, _ | _⟩⟩⟩⟩⟩
  rename_i vs vb vst
  replace hs : Is K H (.l (vis ns)) vs := hs
  replace hb : Is K H (stockC K C (seen.length : Int) sts) vb := hb
  replace hst : Is K H (.L (stD sts)) vst := hst
  have sc := sc__law_told
  have sl := hp.sl
  have lot := hp.st.lot
  have few := lot.few
  have hmem : ∀ c ∈ stuckOf sts seen, c < seen.length := fun c hc => (stuck_mem.mp hc).1
  have hsl : (stuckOf sts seen).length ≤ 100 := by
    refine Nat.le_trans (List.length_filter_le _ _) ?_
    rw [List.length_range]
    exact z2
  have hW := walk_is lot.st
  have w1 : (leftOf sts seen).length = seen.length := (walkP_end lot.st (n := marksN seen) (left := seen) rfl (Nat.le_refl _)).1
  have hstk : stuckOf sts seen = (List.range seen.length).filter fun c => !decide ((leftOf sts seen).getD c 0 = 45) := rfl
  have cok : CellsOk seen.length sts seen (stuckOf sts seen) := ⟨few, lot.st, rfl, by omega, by omega, hmem⟩
  have hbc := bars_clash (bs := bs) lot.st
  have hrc : refM sts bs seen (stuckOf sts seen) = barsM sts bs seen (stuckOf sts seen) := ref_bars fun _ => Iff.rfl
  rw [hbc] at hrc
  refine ⟨_, (pss_cons (ps_set (i := 5) sc.nd rfl (Or.inl rfl) (pe_callH C_making (hr.mono (by decide)) (pa_cons (pv 1) (pa_cons (pv 3) (pa_cons (pv 4) pa_nil)))))
    (pss_cons (ps_if (pt_not (pt_val (pe_callH C__law_shows (hr.mono (by decide)) (pa_cons (pv 2) (pa_cons (pv 3) (pa_cons (pv 4) (pa_cons (pv 5) pa_nil))))))) (pss_one (ps_ret pe_bl)) pss_nil)
    (pss_cons (ps_if (pt_not (pt_val (pe_callH C__law_shows (hr.mono (by decide)) (pa_cons (pv 2) (pa_cons (pv 3) (pa_cons (pv 4) (pa_cons (pe_callW W_making (hr.mono (by decide)) (pk_cons (pv 4) (pk_cons (pv 3) (pk_cons (pv 1) pk_nil)))) pa_nil))))))) (pss_one (ps_ret pe_bl)) pss_nil)
    (pss_cons (ps_set (i := 6) sc.nd rfl (Or.inr rfl) (pe_ix (ix_list_k (K := K)) (pe_callH C__law_peel (hr.mono (by decide)) (pa_cons (pv 2) (pa_cons (pv 4) pa_nil))) pe_int (fun _ _ => rfl)))
    (pss_cons (ps_setLc (i := 7) (own := [("cell", 8)]) (g := gName 8) (by rfl) sc.nd rfl rfl (sw_true rfl rfl rfl (by decide +kernel)) (pi_range1 (by rfl) T.b_range (pa_cons (pe_callB cr_lenStr (by rfl) T.b_len (by decide +kernel) (pa_cons (pv 4) pa_nil)) pa_nil)) (blkOk_by (N := ["script", "built", "stamps", "base", "shown", "actual", "stay", "stuck", "cell"]) (sc := defScope s__law_told) (own := [("cell", 8)]) (by decide +kernel)) (fun _ _ _ _ _ => (pg_name (i := 8) sc.nd rfl (Or.inl rfl))) (fun _ _ _ _ _ => (pts_one (pt_cmpR op_ne (pe_ix ix_str (pv 6) (pv 8) (fun _ _ => rfl)) (pe_strS [45] (by rfl)) (nomark _)))) (fun _ _ _ _ _ => (pv 8)))
    (pss_cons (ps_if (pt_cmpR op_eq (pe_fld (pv 5) rfl) (pe_callH C__law_bars (hr.mono (by decide)) (pa_cons (pv 2) (pa_cons (pv 3) (pa_cons (pv 4) (pa_cons (pv 7) pa_nil))))) (nomark _)) (pss_one (ps_ret pe_bl)) pss_nil)
    (pss_cons (ps_if (PW.pt (pw_and (pt_not (pt_val (pe_fld (pv 5) rfl))) (pw_and1 (pt_cmpR op_notBl (pe_callH C_is_refusal (hr.mono (by decide)) (pa_cons (pv 1) (pa_cons (pv 3) (pa_cons (pv 4) (pa_cons (pe_fld (pv 5) rfl) pa_nil))))) pe_bl (nomark _))))) (pss_one (ps_ret pe_bl)) pss_nil)
    (pss_one (ps_ret (pe_callH C__law_judged (hr.mono (by decide)) (pa_cons (pv 0) (pa_cons (pv 1) (pa_cons (pv 2) (pa_cons (pv 3) (pa_cons (pv 4) (pa_cons (pv 7) pa_nil)))))))))))))))), ?_⟩
  have no : ∀ {p : Prop}, false = true → p := fun z => absurd z (by decide)
  refine a_asg (K := K) (d := madD K CM sts bs seen) (er_call ((seen.length, sts), bs, seen) (era_cons (er_var rfl hb) (era_cons (er_v rfl) (era_cons (er_v rfl) era_nil))) rfl hp) fun va H1 e1 ha => ?_
  refine a_when (K := K) (b := !true) (et_nt (et2 (er_call (sts, bs, seen) (era_cons (er_var rfl (hst.mono e1)) (era_cons (er_v rfl) (era_cons (er_v rfl) (era_cons (er_var rfl ha) era_nil)))) rfl hp))) (fun z => absurd z (by decide)) fun _ H2 e2 => ?_
  have E2 := e1.trans e2
  refine a_when (K := K) (b := !true) (et_nt (et2 (er_call (sts, bs, seen) (era_cons (er_var rfl (hst.mono E2)) (era_cons (er_v rfl) (era_cons (er_v rfl) (era_cons (er_callW ((seen.length, sts), bs, seen) (era_cons (er_v rfl) (era_cons (er_v rfl) (era_cons (er_var rfl (hb.mono E2)) era_nil))) rfl hp) era_nil)))) rfl hp))) (fun z => absurd z (by decide)) fun _ H3 e3 => ?_
  have E3 := E2.trans e3
  refine a_setv (K := K) (x := .str (S (leftOf sts seen))) (er_op (er_callF (sts, seen) (era_cons (er_var rfl (hst.mono E3)) (era_cons (er_v rfl) era_nil)) rfl lot) er_c (ro_ixNd (i := 1) (by show _ = some (Dd.s (S (leftOf sts seen))); rw [hW.2]; rfl))) fun H4 e4 => ?_
  have E4 := E3.trans e4
  refine a_asg (K := K) (d := .n (cvs (stuckOf sts seen))) (Er.to (er_lcR (K := K) (n := seen.length) (vs := [8]) (fun c => !decide ((leftOf sts seen).getD c 0 = 45)) (fun c : Nat => V.int (c : Int)) (era_cons (Er.to (er_cb (era_cons (er_v rfl) era_nil) (rc_lenS (z := S seen) (by rw [S_len]; omega))) (by rw [S_len])) era_nil) (by omega) (fun _ => rfl) (fun i H5 e5 hi => ?_) (fun i H5 e5 hi _ => er_v rfl)) (by rw [hstk, cvs])) fun vx H5 e5 hx => ?_
  · exact Et.to (K := K) (et1 (er_op (er_sign (l := leftOf sts seen) (n := i) (er_v rfl) (er_v rfl) (by omega) (by omega)) er_c ro_neC)) (by simp)
  have E5 := E4.trans e5
  have ha5 := ((ha.mono e2).mono e3).mono (e4.trans e5)
  have made : ∀ {σ : L2.St} {H' : Hp}, Ex H5 H' → σ[5]? = some (some va) → Er K (tFld K (tVar 5) "made") σ H' (.b (clash sts bs seen).isNone) := fun {σ H'} e q => by
    cases hc : clash sts bs seen with
    | none => exact er_mMade TM.cl TM.nM (Er.to (er_var q (ha5.mono e)) (madD_none hc))
    | some c => exact er_mMade TM.cl TM.nM (Er.to (er_var q (ha5.mono e)) (madD_some hc))
  refine a_when (K := K) (b := decide ((clash sts bs seen).isNone = (clash sts bs seen).isSome)) (et1 (er_op (made (Ex.refl _) rfl) (Er.to (er_call ((seen.length, sts), bs, seen, stuckOf sts seen) (era_cons (er_var rfl (hst.mono E5)) (era_cons (er_v rfl) (era_cons (er_v rfl) (era_cons (Er.n2l (er_var rfl hx)) era_nil)))) rfl ⟨cok, sl⟩) (congrArg Dd.b hbc)) ro_eqB)) (fun z => absurd z (by cases clash sts bs seen <;> simp)) fun _ H6 e6 => ?_
  have E6 := E5.trans e6
  refine a_when (K := K) (b := !(clash sts bs seen).isNone && !decide ((clash sts bs seen).isSome = true)) (et_an (et_nt (et2 (made e6 rfl))) fun hnn => et1 (er_op ?_ er_c ro_notBl)) (fun z => absurd z (by cases clash sts bs seen <;> simp)) fun _ H7 e7 => ?_
  · cases hc : clash sts bs seen with
    | none => rw [hc] at hnn; exact absurd hnn (by decide)
    | some c =>
      rw [hc] at hrc
      exact Er.to (er_callF ((seen.length, sts), (bs, seen), true, stuckOf sts seen) (era_cons (Er.as (er_var rfl (hb.mono E6)) fun Hx v z => stockC_D z) (era_cons (er_v rfl) (era_cons (er_v rfl) (era_cons (Er.as (er_mCells TM.cl TM.nC (Er.to (er_var rfl (ha5.mono e6)) (madD_some hc))) fun Hx v z => is_cast z.u2U (by rw [cvs, List.map_map]; rfl)) era_nil)))) rfl ⟨cok, sl⟩) (congrArg Dd.b hrc)
  have E7 := E6.trans e7
  exact a_rete (K := K) (er_call (ns, sts, bs, seen) (era_cons (er_var rfl (hs.mono E7)) (era_cons (er_var rfl (hb.mono E7)) (era_cons (er_var rfl (hst.mono E7)) (era_cons (er_v rfl) (era_cons (er_v rfl) (era_cons (er_var rfl (hx.mono (e6.trans e7))) era_nil)))))) rfl ⟨hn, hp, z1, z2⟩) rfl E7 hk
end
end Mi

set_option maxHeartbeats 4000000
namespace Mi
open PySem PySem.Spec PyProof.Rows L2 Evl
local macro_rules | `(tactic| walk_at "side") => `(tactic| (first | assumption | omega | exact rfl | decide | (simp only [List.length_cons, List.length_nil, List.length_map, List.length_append, List.length_replicate] <;> omega)))
local macro_rules | `(tactic| walk_at "ro") => `(tactic| (first
  | with_reducible exact ro_I0
  | with_reducible exact ro_1018
  | with_reducible exact ro_neC
  | with_reducible exact ro_eqC
  | with_reducible exact ro_neI
  | with_reducible exact ro_eqI
  | with_reducible exact ro_neB
  | with_reducible exact ro_eqB
  | ((with_reducible apply ro_mod); (walk_at "side"))
  | ((with_reducible apply ro_div) <;> (walk_at "side"))
  | ((with_reducible apply ro_divW) <;> (walk_at "side"))
  | with_reducible exact ro_1012
  | with_reducible exact ro_1015
  | ((with_reducible apply ro_mulL) <;> (walk_at "side"))
  | ((with_reducible apply ro_mulR) <;> (walk_at "side"))
  | ((with_reducible apply ro_addC); (walk_at "side"))
  | ((with_reducible apply ro_ixC) <;> (walk_at "side"))
  | ((with_reducible apply ro_ixI) <;> (walk_at "side"))
  | ((with_reducible apply ro_ixIN) <;> (walk_at "side"))
  | ((with_reducible apply ro_ixT2) <;> (walk_at "side"))
  | ((with_reducible apply ro_ixG) <;> (walk_at "side"))
  | ((with_reducible apply ro_eq); exact rfl)
  | ((with_reducible apply ro_ne); exact rfl)
  | with_reducible exact ro_isN
  | with_reducible exact ro_notN
  | with_reducible exact ro_eqL
  | with_reducible exact ro_neL
  | with_reducible exact ro_eqU
  | ((with_reducible apply ro_cat); (walk_at "side"))
  | with_reducible exact ro_inLi
  | with_reducible exact ro_inNi
  | with_reducible exact ro_inUi
  | ((with_reducible apply ro_inL) <;> (walk_at "side"))
  | ((with_reducible apply ro_inN) <;> (walk_at "side"))
  | ((with_reducible apply ro_inU) <;> (walk_at "side"))))
local macro_rules | `(tactic| walk_at "rc") => `(tactic| (first
  | with_reducible exact rc_int
  | with_reducible exact rc_intB
  | with_reducible exact rc_max2
  | ((with_reducible apply rc_lenC); (walk_at "side"))
  | with_reducible exact rc_lenI
  | with_reducible exact rc_lenT
  | with_reducible exact rc_lenIN
  | with_reducible exact rc_lenTN
  | with_reducible exact rc_lenL
  | with_reducible exact rc_lenN
  | with_reducible exact rc_lenU
  | with_reducible exact rc_listL
  | with_reducible exact rc_listU
  | with_reducible exact rc_tupL
  | with_reducible exact rc_tupN
  | ((with_reducible apply rc_isi_int); decide +kernel)
  | ((with_reducible apply rc_isi_str); decide +kernel)
  | ((with_reducible apply rc_isi_bl); decide +kernel)
  | ((with_reducible apply rc_isi_non); decide +kernel)
  | ((with_reducible apply rc_isi_u); decide +kernel)
  | ((with_reducible apply rc_isi_l); decide +kernel)))
local macro_rules | `(tactic| walk_at "er") => `(tactic| (first
  | ((with_reducible apply er_var); (exact rfl); assumption)
  | ((with_reducible apply er_v); exact rfl)
  | with_reducible exact er_c
  | ((with_reducible apply er_pick); (walk_at "er"); (walk_at "er"); (walk_at "er"))
  | ((with_reducible apply er_op); (walk_at "er"); (walk_at "er"); (walk_at "ro"))
  | ((with_reducible apply er_cb); (walk_at "era"); (walk_at "rc"))
  | ((with_reducible apply er_lst'); (walk_at "era"); (exact rfl); (walk_at "side"))
  | ((with_reducible apply er_tup'); (walk_at "era"); (exact rfl); (walk_at "side"))
  | ((with_reducible apply er_notV); (walk_at "er"))
  | ((with_reducible apply er_andV); (walk_at "er"); (intro _; (walk_at "er")))
  | ((with_reducible apply er_orV); (walk_at "er"); (intro _; (walk_at "er")))
  | ((with_reducible apply er_ite); (walk_at "et"); (intro _; (walk_at "er")); (intro _; (walk_at "er")))))
local macro_rules | `(tactic| walk_at "era") => `(tactic| (first
  | with_reducible exact era_nil
  | ((with_reducible apply era_cons); (walk_at "er"); (walk_at "era"))))
local macro_rules | `(tactic| walk_at "et") => `(tactic| (first
  | ((with_reducible apply et_an); (walk_at "et"); (intro _; (walk_at "et")))
  | ((with_reducible apply et_orr); (walk_at "et"); (intro _; (walk_at "et")))
  | ((with_reducible apply et_nt); (walk_at "et"))
  | ((with_reducible apply et1); (walk_at "er"))
  | ((with_reducible apply et2); (walk_at "er"))))

theorem nameOk_okT {l : List Nat} (h : nameOk l = true) : okT l := by
  unfold nameOk at h
  simp only [Bool.and_eq_true] at h
  refine okT_of fun c hc => ?_
  have q := List.all_eq_true.mp h.2.2 c hc
  unfold nameSign at q
  simp only [Bool.or_eq_true, decide_eq_true_eq] at q
  rcases q with q | q
  · simp [letters] at q
    omega
  · simp [digits] at q
    omega
theorem stamp_len {l : List Nat} {n : Nat} (h : stampOk l n = true) : l.length = n := by
  unfold stampOk at h
  simp only [Bool.and_eq_true, decide_eq_true_eq] at h
  omega
theorem layer_okT {l : List Nat} {n : Nat} (h : stampOk l n = true) : okT l := by
  unfold stampOk layerOk at h
  simp only [Bool.and_eq_true] at h
  refine okT_of fun c hc => ?_
  have q := List.all_eq_true.mp h.1.2 c hc
  unfold signOk at q
  rw [Bool.or_eq_true, decide_eq_true_eq, decide_eq_true_eq] at q
  have ha : ∀ c ∈ alls, c < 1114112 := by decide
  rcases q with rfl | q
  · decide
  · exact ha c q
section
variable {P : Program} {w : World} {K : PySem.W.Frag} {mg : Str → Option Value} {base : Heap}
/-! ### the names of a lot -/
theorem nameOk_of {l : List Nat} (h1 : 1 ≤ l.length) (h8 : l.length ≤ 8) (h0 : l.getD 0 0 ∈ letters) (ha : ∀ c ∈ l, c ∈ both) : nameOk l = true := by
  unfold nameOk
  simp only [Bool.and_eq_true, decide_eq_true_eq]
  refine ⟨⟨h1, h8⟩, h0, List.all_eq_true.mpr fun c hc => ?_⟩
  unfold nameSign
  rw [Bool.or_eq_true, decide_eq_true_eq, decide_eq_true_eq]
  exact List.mem_append.mp (ha c hc)
theorem let_at {i : Nat} (h : i < 26) : letters.getD i 0 ∈ letters := getD_memL h
theorem both_at {i : Nat} (h : i < 36) : both.getD i 0 ∈ both := getD_memL h
theorem let_both {c : Nat} (h : c ∈ letters) : c ∈ both := List.mem_append_left _ h
theorem word_mem {line : List Int} : (wordM line).getD 0 0 ∈ letters ∧ ∀ c ∈ wordM line, c ∈ both := by
  have e : 0 ≤ line.getD 1 0 % 26 ∧ line.getD 1 0 % 26 < 26 := ⟨Int.emod_nonneg _ (by decide), Int.emod_lt_of_pos _ (by decide)⟩
  have h0 : letters.getD (line.getD 1 0 % 26).toNat 0 ∈ letters := let_at (by omega)
  refine ⟨h0, fun c hc => ?_⟩
  unfold wordM at hc
  rcases List.mem_append.mp hc with hc | hc
  · rw [List.mem_singleton.mp hc]
    exact let_both h0
  · obtain ⟨k, _, rfl⟩ := List.mem_map.mp hc
    have e2 : 0 ≤ line.getD (2 + k) 0 % 36 ∧ line.getD (2 + k) 0 % 36 < 36 := ⟨Int.emod_nonneg _ (by decide), Int.emod_lt_of_pos _ (by decide)⟩
    exact both_at (by omega)
theorem sg_mem {line : List Int} {x : Int} : (sgM line).getD (x % ((sgM line).length : Int)).toNat 0 ∈ sgM line := by
  have hl : (0 : Int) < ((sgM line).length : Int) := by
    unfold sgM
    split
    · show (0 : Int) < 26
      decide
    · show (0 : Int) < 36
      decide
  have e1 : 0 ≤ x % ((sgM line).length : Int) := Int.emod_nonneg _ (by omega)
  have e2 : x % ((sgM line).length : Int) < ((sgM line).length : Int) := Int.emod_lt_of_pos _ hl
  exact getD_memL (by omega)
theorem sg_both {line : List Int} {c : Nat} (h : c ∈ sgM line) : c ∈ both := by
  unfold sgM at h
  split at h
  · exact let_both h
  · exact h
theorem getD_app {a b : List Nat} (h : a ≠ []) : (a ++ b).getD 0 0 = a.getD 0 0 := by
  cases a with
  | nil => exact absurd rfl h
  | cons x r => rfl
theorem name_ok {line : List Int} {many k : Nat} : nameOk (nameM line many k) = true ∧ (nameM line many k).length ≤ 1000 := by
  have lw : (wordM line).length = 8 := wordM_len
  obtain ⟨w0, wm⟩ := word_mem (line := line)
  have hs := sizN_bd line
  have hp := spotN_bd line
  suffices h : nameOk (nameM line many k) = true by
    refine ⟨h, ?_⟩
    unfold nameOk at h
    simp only [Bool.and_eq_true, decide_eq_true_eq] at h
    omega
  unfold nameM
  split
  · unfold preM
    refine nameOk_of ?_ ?_ ?_ fun c hc => wm c (List.mem_of_mem_take hc)
    · rw [List.length_take]; omega
    · rw [List.length_take]; omega
    · cases hq : wordM line with
      | nil => rw [hq] at lw; cases lw
      | cons x r =>
        rw [hq] at w0
        exact w0
  · split
    · unfold mnuM
      have e1 : 0 ≤ (line.getD 9 0 + (k : Int)) % 8 := Int.emod_nonneg _ (by decide)
      have e2 : (line.getD 9 0 + (k : Int)) % 8 < 8 := Int.emod_lt_of_pos _ (by decide)
      have q : ∀ j : Nat, j < 8 → nameOk (menuL.getD j []) = true := by decide +kernel
      exact q _ (by omega)
    · unfold thdM
      have sm := sg_mem (line := line) (x := line.getD 3 0 + 7 * (k : Int))
      refine nameOk_of ?_ ?_ ?_ fun c hc => ?_
      · rw [List.length_append, List.length_append, List.length_singleton]
        omega
      · rw [List.length_append, List.length_append, List.length_take, List.length_take, List.length_drop, List.length_singleton]
        omega
      · by_cases h0 : spotN line = 0
        · rw [h0, List.take_zero, List.nil_append]
          show (sgM line).getD _ 0 ∈ letters
          have e : sgM line = letters := by
            unfold sgM
            rw [if_pos h0]
          rw [e] at sm ⊢
          exact sm
        · rw [List.append_assoc, getD_app]
          · cases hq : wordM line with
            | nil => rw [hq] at lw; cases lw
            | cons x r =>
              rw [hq] at w0
              cases hsp : spotN line with
              | zero => exact absurd hsp h0
              | succ n => exact w0
          · intro e
            have := congrArg List.length e
            rw [List.length_take, List.length_nil] at this
            omega
      · rcases List.mem_append.mp hc with hc | hc
        · rcases List.mem_append.mp hc with hc | hc
          · exact wm c (List.mem_of_mem_take hc)
          · rw [List.mem_singleton.mp hc]
            exact sg_both sm
        · exact wm c (List.mem_of_mem_drop (List.mem_of_mem_take hc))
theorem getD_szN {l : List Nat} {k : Nat} (h : k < l.length) : l.getD k 0 = l[k] := by
  rw [List.getD_eq_getElem?_getD, List.getElem?_eq_getElem h]
  rfl
theorem getD_inj {l : List Nat} (hn : l.Nodup) {i j : Nat} (hi : i < l.length) (hj : j < l.length) (h : l.getD i 0 = l.getD j 0) : i = j := by
  rw [getD_szN hi, getD_szN hj] at h
  rcases Nat.lt_trichotomy i j with q | q | q
  · exact absurd h (List.pairwise_iff_getElem.mp hn i j hi hj q)
  · exact q
  · exact absurd h.symm (List.pairwise_iff_getElem.mp hn j i hj hi q)
theorem name_inj {line : List Int} {many i j : Nat} (hm : many ≤ 24) (hi : i < many) (hj : j < many) (h : nameM line many i = nameM line many j) : i = j := by
  have lw : (wordM line).length = 8 := wordM_len
  unfold nameM at h
  split at h
  · rename_i hc
    have e := congrArg List.length h
    unfold preM at e
    rw [List.length_take, List.length_take] at e
    omega
  · split at h
    · rename_i hc
      unfold mnuM at h
      have q : ∀ a : Nat, a < 8 → ∀ b : Nat, b < 8 → menuL.getD a [] = menuL.getD b [] → a = b := by decide +kernel
      have := q _ (by omega) _ (by omega) h
      omega
    · unfold thdM at h
      have h2 := List.append_cancel_right h
      have h3 := List.append_cancel_left h2
      have h4 := (List.cons.inj h3).1
      have n1 : letters.Nodup := by decide +kernel
      have n2 : both.Nodup := by decide +kernel
      have l1 : letters.length = 26 := rfl
      have l2 : both.length = 36 := rfl
      unfold sgM at h4
      split at h4
      · have e1 : 0 ≤ (line.getD 3 0 + 7 * (i : Int)) % (letters.length : Int) := Int.emod_nonneg _ (by decide)
        have e2 : (line.getD 3 0 + 7 * (i : Int)) % (letters.length : Int) < (letters.length : Int) := Int.emod_lt_of_pos _ (by decide)
        have e3 : 0 ≤ (line.getD 3 0 + 7 * (j : Int)) % (letters.length : Int) := Int.emod_nonneg _ (by decide)
        have e4 : (line.getD 3 0 + 7 * (j : Int)) % (letters.length : Int) < (letters.length : Int) := Int.emod_lt_of_pos _ (by decide)
        have := getD_inj n1 (by omega) (by omega) h4
        rw [l1] at *
        omega
      · have e1 : 0 ≤ (line.getD 3 0 + 7 * (i : Int)) % (both.length : Int) := Int.emod_nonneg _ (by decide)
        have e2 : (line.getD 3 0 + 7 * (i : Int)) % (both.length : Int) < (both.length : Int) := Int.emod_lt_of_pos _ (by decide)
        have e3 : 0 ≤ (line.getD 3 0 + 7 * (j : Int)) % (both.length : Int) := Int.emod_nonneg _ (by decide)
        have e4 : (line.getD 3 0 + 7 * (j : Int)) % (both.length : Int) < (both.length : Int) := Int.emod_lt_of_pos _ (by decide)
        have := getD_inj n2 (by omega) (by omega) h4
        rw [l2] at *
        omega
theorem names_nodup {line : List Int} {many : Nat} (hm : many ≤ 24) : ((List.range many).map (nameM line many)).Nodup := by
  refine List.pairwise_iff_getElem.mpr fun i j hi hj hij => ?_
  rw [List.length_map, List.length_range] at hi hj
  rw [List.getElem_map, List.getElem_map, List.getElem_range, List.getElem_range]
  intro e
  have := name_inj hm hi hj e
  omega
end
section
variable {P : Program} {w : World} {K : PySem.W.Frag} {mg : Str → Option Value} {base : Heap}
theorem head_bd {ns : List Int} {at_ i : Nat} (h : i < 23) : 0 ≤ (headM ns at_).getD i 0 ∧ (headM ns at_).getD i 0 < szLot.getD i 0 := digM_bd szLot_pos (i := i) h
theorem cut_at {hd : List Int} {j : Nat} (h : j < 4) (hl : hd.length = 23) : ((hd.drop 2).take 4).getD j 0 = hd.getD (2 + j) 0 := by
  rw [List.getD_eq_getElem?_getD, List.getD_eq_getElem?_getD, List.getElem?_take, if_pos h, List.getElem?_drop]
theorem alls_nodup : alls.Nodup := by decide +kernel
theorem inks_ok (ns : List Int) (at_ : Nat) : InksOk (lotInks (headM ns at_)) := by
  have hl := (headM_ok ns at_).len
  have b2 : 0 ≤ (headM ns at_).getD 2 0 ∧ (headM ns at_).getD 2 0 < 4 := head_bd (i := 2) (by decide)
  have b3 : 0 ≤ (headM ns at_).getD 3 0 ∧ (headM ns at_).getD 3 0 < 27 := head_bd (i := 3) (by decide)
  have b4 : 0 ≤ (headM ns at_).getD 4 0 ∧ (headM ns at_).getD 4 0 < 26 := head_bd (i := 4) (by decide)
  have b5 : 0 ≤ (headM ns at_).getD 5 0 ∧ (headM ns at_).getD 5 0 < 25 := head_bd (i := 5) (by decide)
  generalize headM ns at_ = hd at *
  have c0 := cut_at (j := 0) (by decide) hl
  have c1 := cut_at (j := 1) (by decide) hl
  have c2 := cut_at (j := 2) (by decide) hl
  have c3 := cut_at (j := 3) (by decide) hl
  have la : alls.length = 27 := rfl
  unfold lotInks inksM ink3 ink2 inkF
  rw [c0, c1, c2, c3]
  have hF : 0 ≤ hd.getD (2 + 1) 0 * (if hd.getD (2 + 0) 0 < 2 then 1 else 0) ∧ hd.getD (2 + 1) 0 * (if hd.getD (2 + 0) 0 < 2 then 1 else 0) < 27 := by
    split
    · rw [Int.mul_one]
      exact b3
    · rw [Int.mul_zero]
      decide
  generalize hd.getD (2 + 1) 0 * (if hd.getD (2 + 0) 0 < 2 then 1 else 0) = f at hF ⊢
  replace b4 : 0 ≤ hd.getD (2 + 2) 0 ∧ hd.getD (2 + 2) 0 < 26 := b4
  replace b5 : 0 ≤ hd.getD (2 + 3) 0 ∧ hd.getD (2 + 3) 0 < 25 := b5
  generalize hd.getD (2 + 2) 0 = n at b4 ⊢
  generalize hd.getD (2 + 3) 0 = m at b5 ⊢
  have key : ∀ i j k : Nat, i < 27 → j < 27 → k < 27 → i ≠ j → i ≠ k → j ≠ k → InksOk [alls.getD i 0, alls.getD j 0, alls.getD k 0] := fun i j k hi hj hk h1 h2 h3 => by
    refine ⟨rfl, ?_, fun c hc => ?_⟩
    · simp only [List.nodup_cons, List.mem_cons, List.not_mem_nil, or_false, not_or, List.nodup_nil, and_true, not_false_eq_true]
      refine ⟨⟨fun e => h1 (getD_inj alls_nodup hi hj e), fun e => h2 (getD_inj alls_nodup hi hk e)⟩, fun e => h3 (getD_inj alls_nodup hj hk e)⟩
    · simp only [List.mem_cons, List.not_mem_nil, or_false] at hc
      rcases hc with rfl | rfl | rfl
      · exact getD_memL hi
      · exact getD_memL hj
      · exact getD_memL hk
  refine key _ _ _ (by omega) (by omega) ?_ (by omega) ?_ ?_
  · split <;> omega
  · split <;> omega
  · split <;> omega
/-- a menu of signs whose last sign is a mark -/
structure MenuOk (menu : List Nat) : Prop where
  len : menu.length = 8
  sg : ∀ c ∈ menu, c = 45 ∨ c ∈ alls
  last : menu.getD 7 0 ∈ alls
theorem alls_no : ∀ c ∈ alls, c ≠ 45 := by decide
theorem menu_ok (ns : List Int) (at_ size k : Nat) : MenuOk (menuAt (headM ns at_) size k) := by
  have hok := headM_ok ns at_
  have hi := inks_ok ns at_
  have b22 : 0 ≤ (headM ns at_).getD 22 0 ∧ (headM ns at_).getD 22 0 < 27 := head_bd (i := 22) (by decide)
  generalize headM ns at_ = hd at *
  have la : alls.length = 27 := rfl
  refine ⟨menuAt_len hok size k, ?_, ?_⟩
  all_goals unfold menuAt
  · split
    · intro c hc
      unfold freeMenu at hc
      rcases List.mem_append.mp hc with hc | hc
      · simp only [List.mem_cons, List.not_mem_nil, or_false, or_self] at hc
        exact .inl hc
      · obtain ⟨j, _, rfl⟩ := List.mem_map.mp hc
        have e1 : 0 ≤ (hd.getD 22 0 + 3 * (k : Int) + (j : Int)) % 27 := Int.emod_nonneg _ (by decide)
        have e2 : (hd.getD 22 0 + 3 * (k : Int) + (j : Int)) % 27 < 27 := Int.emod_lt_of_pos _ (by decide)
        exact .inr (getD_memL (by omega))
    · intro c hc
      have m0 : (lotInks hd).getD 0 0 ∈ alls := hi.mem _ (getD_memL (by rw [hi.len]; decide))
      have m1 : (lotInks hd).getD 1 0 ∈ alls := hi.mem _ (getD_memL (by rw [hi.len]; decide))
      have ml : lotLast hd ∈ alls := hi.mem _ (getD_memL (by have := hok.b7; rw [hi.len]; omega))
      unfold lotMenu at hc
      have q : (maxI (hd.getD 6 0) (3 * (if 5 < (size : Int) then 1 else 0))).toNat < 4 := by
        have := hok.b6
        unfold maxI
        split <;> split <;> omega
      have hm : (menus (lotInks hd) (lotLast hd)).getD (maxI (hd.getD 6 0) (3 * (if 5 < (size : Int) then 1 else 0))).toNat [] ∈ menus (lotInks hd) (lotLast hd) := getD_memL q
      generalize (menus (lotInks hd) (lotLast hd)).getD (maxI (hd.getD 6 0) (3 * (if 5 < (size : Int) then 1 else 0))).toNat [] = mm at hc hm
      unfold menus at hm
      simp only [List.mem_cons, List.not_mem_nil, or_false] at hm
      rcases hm with rfl | rfl | rfl | rfl <;> (simp only [List.mem_cons, List.not_mem_nil, or_false] at hc; rcases hc with rfl | rfl | rfl | rfl | rfl | rfl | rfl | rfl <;> first | exact .inl rfl | exact .inr m0 | exact .inr m1 | exact .inr ml)
  · split
    · unfold freeMenu
      have e1 : 0 ≤ (hd.getD 22 0 + 3 * (k : Int) + ((2 : Nat) : Int)) % 27 := Int.emod_nonneg _ (by decide)
      have e2 : (hd.getD 22 0 + 3 * (k : Int) + ((2 : Nat) : Int)) % 27 < 27 := Int.emod_lt_of_pos _ (by decide)
      show alls.getD ((hd.getD 22 0 + 3 * (k : Int) + ((2 : Nat) : Int)) % 27).toNat 0 ∈ alls
      exact getD_memL (by omega)
    · have m1 : (lotInks hd).getD 1 0 ∈ alls := hi.mem _ (getD_memL (by rw [hi.len]; decide))
      have ml : lotLast hd ∈ alls := hi.mem _ (getD_memL (by have := hok.b7; rw [hi.len]; omega))
      unfold lotMenu
      have q : (maxI (hd.getD 6 0) (3 * (if 5 < (size : Int) then 1 else 0))).toNat < 4 := by
        have := hok.b6
        unfold maxI
        split <;> split <;> omega
      generalize (maxI (hd.getD 6 0) (3 * (if 5 < (size : Int) then 1 else 0))).toNat = j at q
      rcases j with _ | _ | _ | _ | j
      · exact ml
      · exact ml
      · exact m1
      · exact ml
      · omega
theorem txt_ok {menu : List Nat} {line : List Int} {size : Nat} (h : MenuOk menu) (h1 : 1 ≤ size) (h30 : size ≤ 30) : stampOk (txtM menu line size) size = true := by
  have hl : (txtM menu line size).length = size := txtM_len h1
  have pk : ∀ c ∈ pickM menu 8 line size, c ∈ menu := fun c hc => by
    obtain ⟨k, _, rfl⟩ := List.mem_map.mp hc
    have e1 : 0 ≤ line.getD k 0 % 8 := Int.emod_nonneg _ (by decide)
    have e2 : line.getD k 0 % 8 < 8 := Int.emod_lt_of_pos _ (by decide)
    exact getD_memL (by rw [h.len]; omega)
  have l7 : menu.getD 7 0 ∈ menu := getD_memL (by rw [h.len]; decide)
  have sg : ∀ c ∈ txtM menu line size, c = 45 ∨ c ∈ alls := fun c hc => by
    unfold txtM at hc
    split at hc
    · unfold fixM at hc
      rcases List.mem_append.mp hc with hc | hc
      · rcases List.mem_append.mp hc with hc | hc
        · exact h.sg c (pk c (List.mem_of_mem_take hc))
        · rw [List.mem_singleton.mp hc]
          exact .inr h.last
      · exact h.sg c (pk c (List.mem_of_mem_drop hc))
    · exact h.sg c (pk c hc)
  have some_ : ∃ c ∈ txtM menu line size, c ≠ 45 := by
    unfold txtM
    split
    · refine ⟨menu.getD 7 0, ?_, alls_no _ h.last⟩
      unfold fixM
      exact List.mem_append_left _ (List.mem_append_right _ (List.mem_singleton.mpr rfl))
    · rename_i hne
      refine Classical.byContradiction fun hno => hne ?_
      refine List.eq_replicate_iff.mpr ⟨pickM_len, fun c hc => ?_⟩
      exact Classical.byContradiction fun q => hno ⟨c, hc, q⟩
  unfold stampOk layerOk
  simp only [Bool.and_eq_true, decide_eq_true_eq]
  refine ⟨⟨⟨by omega, by omega⟩, List.all_eq_true.mpr fun c hc => ?_⟩, by omega, ?_⟩
  · unfold signOk
    rw [Bool.or_eq_true, decide_eq_true_eq, decide_eq_true_eq]
    exact sg c hc
  · obtain ⟨c, hc, hne⟩ := some_
    obtain ⟨i, hi, hi2⟩ := List.getElem_of_mem hc
    have hz : (c, i) ∈ (txtM menu line size).zipIdx := List.mem_of_getElem? (zipIdx_at (by rw [List.getElem?_eq_getElem hi, hi2]))
    have hm : ((i : Nat) : Int) ∈ cellsM (txtM menu line size) := List.mem_map.mpr ⟨(c, i), List.mem_filter.mpr ⟨hz, by simpa using hne⟩, rfl⟩
    have : 0 < (cellsM (txtM menu line size)).length := List.length_pos_of_mem hm
    rw [List.length_map]
    omega
theorem set_same {α : Type} : ∀ {l : List α} {i : Nat} {x : α}, l[i]? = some x → l.set i x = l
  | [], _, _, h => by simp at h
  | y :: r, 0, x, h => by
    rw [show y = x from Option.some.inj h]
    rfl
  | y :: r, i + 1, x, h => by
    show y :: r.set i x = y :: r
    rw [set_same (i := i) h]
theorem lot_mem {ns : List Int} {at_ : Nat} {hd : List Int} {size many : Nat} : ∀ p ∈ lotAll ns at_ hd size many, ∃ k k', k < many ∧ k' < many ∧ p.1 = nameM (hd.drop 9) many k ∧ p.2 = (lotPair ns at_ hd size many k').2 := by
  have row : ∀ p ∈ lotRow ns at_ hd size many, ∃ k k', k < many ∧ k' < many ∧ p.1 = nameM (hd.drop 9) many k ∧ p.2 = (lotPair ns at_ hd size many k').2 := fun p hp => by
    obtain ⟨k, hk, rfl⟩ := List.mem_map.mp hp
    exact ⟨k, k, List.mem_range.mp hk, List.mem_range.mp hk, rfl, rfl⟩
  intro p hp
  unfold lotAll at hp
  split at hp
  · rename_i hc
    rcases List.mem_or_eq_of_mem_set hp with hp | rfl
    · exact row p hp
    · refine ⟨many - 1, 0, by omega, by omega, rfl, ?_⟩
      have e : (lotRow ns at_ hd size many).getD 0 ([], []) = lotPair ns at_ hd size many 0 := by
        unfold lotRow
        rw [List.getD_eq_getElem?_getD, List.getElem?_map, List.getElem?_range (by omega)]
        rfl
      rw [e]
  · exact row p hp
theorem lot_names {ns : List Int} {at_ : Nat} {hd : List Int} {size many : Nat} : (lotAll ns at_ hd size many).map (·.1) = (List.range many).map (nameM (hd.drop 9) many) := by
  have row : (lotRow ns at_ hd size many).map (·.1) = (List.range many).map (nameM (hd.drop 9) many) := by
    unfold lotRow
    rw [List.map_map]
    rfl
  unfold lotAll
  split
  · rename_i hc
    rw [List.map_set, row]
    refine set_same ?_
    rw [List.getElem?_map, List.getElem?_range (by omega)]
    rfl
  · exact row
theorem lot_len {ns : List Int} {at_ : Nat} {hd : List Int} {size many : Nat} : (lotAll ns at_ hd size many).length = many := by
  have := congrArg List.length (lot_names (ns := ns) (at_ := at_) (hd := hd) (size := size) (many := many))
  simpa using this
theorem pairs_ok (ns : List Int) (at_ size many : Nat) (h1 : 1 ≤ size) (h30 : size ≤ 30) (hm : many ≤ 24) : PairsOk size (lotAll ns at_ (headM ns at_) size many) := by
  refine ⟨fun p hp => ?_, fun p hp => ?_, ?_, ?_⟩
  · obtain ⟨k, k', hk, hk', e1, e2⟩ := lot_mem p hp
    rw [e1]
    exact name_ok
  · obtain ⟨k, k', hk, hk', e1, e2⟩ := lot_mem p hp
    rw [e2]
    have t := txt_ok (line := digM (cellM ns (at_ + 1 + k')) (List.replicate size 8)) (menu_ok ns at_ size k') h1 h30
    refine ⟨t, ?_⟩
    have := stamp_len t
    show (txtM (menuAt (headM ns at_) size k') (digM (cellM ns (at_ + 1 + k')) (List.replicate size 8)) size).length ≤ 1000
    omega
  · rw [lot_names]
    exact names_nodup hm
  · rw [lot_len]
    omega
theorem scene_ok (ns : List Int) (at_ size many : Nat) (h1 : 1 ≤ size) (h30 : size ≤ 30) (hm : many ≤ 24) : SceneOk size (lotInks (headM ns at_)) (lotAll ns at_ (headM ns at_) size many) :=
  ⟨h1, h30, inks_ok ns at_, by rw [lot_len]; omega, fun p hp => stamp_len ((pairs_ok ns at_ size many h1 h30 hm).st p hp).1⟩
/-! ### layers of a scene have the stock's size -/
theorem dim_len {ns : List Int} {at_ : Nat} {n : Int} {size : Nat} {x : List Nat} (h : x.length = size) : (dimM ns at_ n size x).length = size := by
  unfold dimM
  split
  · rw [dashM_len, h]
  · exact h
theorem scene_lens {ns : List Int} {at_ size : Nat} {ik : List Nat} {st : List (List Nat × List Nat)} (hS : SceneOk size ik st) : ∃ b s nums, b.length = size ∧ s.length = size ∧ sceneD ns at_ size ik st = .L [.s (S b), .s (S s), .l (vis nums)] := by
  have hh : ∀ i, i < 68 → 0 ≤ (headS ns at_).getD i 0 ∧ (headS ns at_).getD i 0 < szSc.getD i 0 := fun i hi => digM_bd szSc_pos (i := i) hi
  have b0 : (base0 (headS ns at_) ik size).length = size := pickM_len
  have b1 : (base1 (headS ns at_) ik size).length = size := by
    unfold base1
    split
    · exact pickM_len
    · exact b0
  have r1 : (runM st (base0 (headS ns at_) ik size) (numsS ns at_ st.length)).length = size := runM_len hS.txt numsS_ok b0
  have hs1 := hS.s1
  have s1 : (shown1 (headS ns at_) ik size st (numsS ns at_ st.length)).length = size := by
    unfold shown1
    split
    · unfold spoilM
      have q0 : 0 ≤ (headS ns at_).getD 4 0 % (size : Int) := Int.emod_nonneg _ (by omega)
      have q1 : (headS ns at_).getD 4 0 % (size : Int) < (size : Int) := Int.emod_lt_of_pos _ (by omega)
      rw [List.length_append, List.length_append, List.length_take, List.length_drop, List.length_singleton, r1]
      omega
    · exact r1
  exact ⟨_, _, _, dim_len b1, dim_len s1, rfl⟩
end
end Mi

set_option maxHeartbeats 4000000
namespace Mi
open PySem PySem.Spec PyProof.Rows L2 Evl
local macro_rules | `(tactic| walk_at "side") => `(tactic| (first | assumption | omega | exact rfl | decide | (simp only [List.length_cons, List.length_nil, List.length_map, List.length_append, List.length_replicate] <;> omega)))
local macro_rules | `(tactic| walk_at "ro") => `(tactic| (first
  | with_reducible exact ro_I0
  | with_reducible exact ro_1018
  | with_reducible exact ro_neC
  | with_reducible exact ro_eqC
  | with_reducible exact ro_neI
  | with_reducible exact ro_eqI
  | with_reducible exact ro_neB
  | with_reducible exact ro_eqB
  | ((with_reducible apply ro_mod); (walk_at "side"))
  | ((with_reducible apply ro_div) <;> (walk_at "side"))
  | ((with_reducible apply ro_divW) <;> (walk_at "side"))
  | with_reducible exact ro_1012
  | with_reducible exact ro_1015
  | ((with_reducible apply ro_mulL) <;> (walk_at "side"))
  | ((with_reducible apply ro_mulR) <;> (walk_at "side"))
  | ((with_reducible apply ro_addC); (walk_at "side"))
  | ((with_reducible apply ro_ixC) <;> (walk_at "side"))
  | ((with_reducible apply ro_ixI) <;> (walk_at "side"))
  | ((with_reducible apply ro_ixIN) <;> (walk_at "side"))
  | ((with_reducible apply ro_ixT2) <;> (walk_at "side"))
  | ((with_reducible apply ro_ixG) <;> (walk_at "side"))
  | ((with_reducible apply ro_eq); exact rfl)
  | ((with_reducible apply ro_ne); exact rfl)
  | with_reducible exact ro_isN
  | with_reducible exact ro_notN
  | with_reducible exact ro_eqL
  | with_reducible exact ro_neL
  | with_reducible exact ro_eqU
  | ((with_reducible apply ro_cat); (walk_at "side"))
  | with_reducible exact ro_inLi
  | with_reducible exact ro_inNi
  | with_reducible exact ro_inUi
  | ((with_reducible apply ro_inL) <;> (walk_at "side"))
  | ((with_reducible apply ro_inN) <;> (walk_at "side"))
  | ((with_reducible apply ro_inU) <;> (walk_at "side"))))
local macro_rules | `(tactic| walk_at "rc") => `(tactic| (first
  | with_reducible exact rc_int
  | with_reducible exact rc_intB
  | with_reducible exact rc_max2
  | ((with_reducible apply rc_lenC); (walk_at "side"))
  | with_reducible exact rc_lenI
  | with_reducible exact rc_lenT
  | with_reducible exact rc_lenIN
  | with_reducible exact rc_lenTN
  | with_reducible exact rc_lenL
  | with_reducible exact rc_lenN
  | with_reducible exact rc_lenU
  | with_reducible exact rc_listL
  | with_reducible exact rc_listU
  | with_reducible exact rc_tupL
  | with_reducible exact rc_tupN
  | ((with_reducible apply rc_isi_int); decide +kernel)
  | ((with_reducible apply rc_isi_str); decide +kernel)
  | ((with_reducible apply rc_isi_bl); decide +kernel)
  | ((with_reducible apply rc_isi_non); decide +kernel)
  | ((with_reducible apply rc_isi_u); decide +kernel)
  | ((with_reducible apply rc_isi_l); decide +kernel)))
local macro_rules | `(tactic| walk_at "er") => `(tactic| (first
  | ((with_reducible apply er_var); (exact rfl); assumption)
  | ((with_reducible apply er_v); exact rfl)
  | with_reducible exact er_c
  | ((with_reducible apply er_pick); (walk_at "er"); (walk_at "er"); (walk_at "er"))
  | ((with_reducible apply er_op); (walk_at "er"); (walk_at "er"); (walk_at "ro"))
  | ((with_reducible apply er_cb); (walk_at "era"); (walk_at "rc"))
  | ((with_reducible apply er_lst'); (walk_at "era"); (exact rfl); (walk_at "side"))
  | ((with_reducible apply er_tup'); (walk_at "era"); (exact rfl); (walk_at "side"))
  | ((with_reducible apply er_notV); (walk_at "er"))
  | ((with_reducible apply er_andV); (walk_at "er"); (intro _; (walk_at "er")))
  | ((with_reducible apply er_orV); (walk_at "er"); (intro _; (walk_at "er")))
  | ((with_reducible apply er_ite); (walk_at "et"); (intro _; (walk_at "er")); (intro _; (walk_at "er")))))
local macro_rules | `(tactic| walk_at "era") => `(tactic| (first
  | with_reducible exact era_nil
  | ((with_reducible apply era_cons); (walk_at "er"); (walk_at "era"))))
local macro_rules | `(tactic| walk_at "et") => `(tactic| (first
  | ((with_reducible apply et_an); (walk_at "et"); (intro _; (walk_at "et")))
  | ((with_reducible apply et_orr); (walk_at "et"); (intro _; (walk_at "et")))
  | ((with_reducible apply et_nt); (walk_at "et"))
  | ((with_reducible apply et1); (walk_at "er"))
  | ((with_reducible apply et2); (walk_at "er"))))

/-! ### texts of a chain -/
structure TX (size : Nat) (t : List Nat) : Prop where
  l : t.length = size
  sg : ∀ c ∈ t, c = 45 ∨ c ∈ alls
  ne : ∃ c ∈ t, c ≠ 45
theorem stamp_of {size : Nat} {t : List Nat} (h : TX size t) (h1 : 1 ≤ size) (h30 : size ≤ 30) : stampOk t size = true := by
  have hl := h.l
  unfold stampOk layerOk
  simp only [Bool.and_eq_true, decide_eq_true_eq]
  refine ⟨⟨⟨by omega, by omega⟩, List.all_eq_true.mpr fun c hc => ?_⟩, by omega, ?_⟩
  · unfold signOk
    rw [Bool.or_eq_true, decide_eq_true_eq, decide_eq_true_eq]
    exact h.sg c hc
  · obtain ⟨c, hc, hne⟩ := h.ne
    obtain ⟨i, hi, hi2⟩ := List.getElem_of_mem hc
    have hz : (c, i) ∈ t.zipIdx := List.mem_of_getElem? (zipIdx_at (by rw [List.getElem?_eq_getElem hi, hi2]))
    have hm : ((i : Nat) : Int) ∈ cellsM t := List.mem_map.mpr ⟨(c, i), List.mem_filter.mpr ⟨hz, by simpa using hne⟩, rfl⟩
    have : 0 < (cellsM t).length := List.length_pos_of_mem hm
    rw [List.length_map]
    omega
theorem TX.rev {size : Nat} {t : List Nat} (h : TX size t) : TX size t.reverse := ⟨by rw [List.length_reverse]; exact h.l, fun c hc => h.sg c (List.mem_reverse.mp hc), by obtain ⟨c, hc, hn⟩ := h.ne; exact ⟨c, List.mem_reverse.mpr hc, hn⟩⟩
theorem tx_mk {size k m c1 c2 : Nat} (h : k + 2 + m = size) (h1 : c1 ∈ alls) (h2 : c2 ∈ alls) : TX size (List.replicate k 45 ++ [c1] ++ [c2] ++ List.replicate m 45) := by
  refine ⟨?_, fun c hc => ?_, ⟨c1, ?_, alls_no _ h1⟩⟩
  · simp only [List.length_append, List.length_replicate, List.length_singleton]
    omega
  · rcases List.mem_append.mp hc with hc | hc
    · rcases List.mem_append.mp hc with hc | hc
      · rcases List.mem_append.mp hc with hc | hc
        · exact .inl (List.mem_replicate.mp hc).2
        · rw [List.mem_singleton.mp hc]
          exact .inr h1
      · rw [List.mem_singleton.mp hc]
        exact .inr h2
    · exact .inl (List.mem_replicate.mp hc).2
  · exact List.mem_append_left _ (List.mem_append_left _ (List.mem_append_right _ (List.mem_singleton.mpr rfl)))
theorem inksM_ok {sp : List Int} (h : InkOk sp) (b4 : 0 ≤ sp.getD 2 0 ∧ sp.getD 2 0 < 26) (b5 : 0 ≤ sp.getD 3 0 ∧ sp.getD 3 0 < 25) : InksOk (inksM sp) := by
  have la : alls.length = 27 := rfl
  have hF := inkF_bd h
  unfold inksM ink3 ink2
  generalize inkF sp = f at hF ⊢
  generalize sp.getD 2 0 = n at b4 ⊢
  generalize sp.getD 3 0 = m at b5 ⊢
  have key : ∀ i j k : Nat, i < 27 → j < 27 → k < 27 → i ≠ j → i ≠ k → j ≠ k → InksOk [alls.getD i 0, alls.getD j 0, alls.getD k 0] := fun i j k hi hj hk h1 h2 h3 => by
    refine ⟨rfl, ?_, fun c hc => ?_⟩
    · simp only [List.nodup_cons, List.mem_cons, List.not_mem_nil, or_false, not_or, List.nodup_nil, and_true, not_false_eq_true]
      refine ⟨⟨fun e => h1 (getD_inj alls_nodup hi hj e), fun e => h2 (getD_inj alls_nodup hi hk e)⟩, fun e => h3 (getD_inj alls_nodup hj hk e)⟩
    · simp only [List.mem_cons, List.not_mem_nil, or_false] at hc
      rcases hc with rfl | rfl | rfl
      · exact getD_memL hi
      · exact getD_memL hj
      · exact getD_memL hk
  refine key _ _ _ (by omega) (by omega) ?_ (by omega) ?_ ?_
  · split <;> omega
  · split <;> omega
  · split <;> omega
structure DrawnOk (size : Nat) (sts : List (List Nat × List Nat)) (b sh : List Nat) : Prop where
  po : PairsOk size sts
  bl : b.length = size
  sl : sh.length = size
  s1 : 1 ≤ size
  s30 : size ≤ 30
def stN (sts : List (List Nat × List Nat)) : List Dd := sts.map fun p => Dd.N [.s (S p.1), .s (S p.2)]
def chainD (K : PySem.W.Frag) : Dd := .P ⟨fun H y => ∃ (size : Nat) (ik : List Nat) (sts : List (List Nat × List Nat)) (b sh : List Nat), DrawnOk size sts b sh ∧ Is K H (.N [.i (size : Int), .s (S ik), .N (stN sts), .s (S b), .s (S sh)]) y, by
  rintro H H' y e ⟨size, ik, sts, b, sh, h1, h2⟩
  exact ⟨size, ik, sts, b, sh, h1, h2.mono e⟩⟩
section
variable {K : PySem.W.Frag} {σ : L2.St} {G H : Hp} {te tl tb ta : TE} {tr : TA} {ds : List Dd}
theorem er_cutTo {n : Nat} {xs : List V} (h : Er K te σ H (.l xs)) (h2 : Er K tb σ H (.i (n : Int))) : Er K (tSl (rSlL K) te tNoPart (tPart tb)) σ H (.n (xs.take n)) := by
  have ec : cutV xs none (some (n : Int)) = xs.take n := by
    unfold cutV
    rw [HT.sIx_none, HT.sIx_nat]
    rw [List.drop_zero, Nat.sub_zero, List.take_eq_take_iff]
    omega
  rw [← ec]
  exact er_slL h eo_non (eo_of h2)
theorem er_cutFrom {n : Nat} {xs : List V} (h : Er K te σ H (.l xs)) (h2 : Er K tb σ H (.i (n : Int))) : Er K (tSl (rSlL K) te (tPart tb) tNoPart) σ H (.n (xs.drop n)) := by
  rw [← cutV_from]
  exact er_slL h (eo_of h2) eo_non
/-- an int of the list, as a Nat -/
theorem er_nat {ns : List Int} {n : Nat} (h : Er K te σ H (.n (vis ns))) (h2 : Er K ta σ H (.i (n : Int))) (hn : n < ns.length) (h0 : 0 ≤ ns.getD n 0) : Er K (tCB rInt1 (tCons (tOp (rIxL K) te ta) tNil)) σ H (.i (((ns.getD n 0).toNat : Nat) : Int)) := Er.to (er_cb (era_cons (er_numN h h2 hn) era_nil) rc_int) (by rw [Int.toNat_of_nonneg h0])
end
theorem vsl_take (L : List (List Nat)) (n : Nat) : (vsl L).take n = vsl (L.take n) := by rw [vsl, vss, ← List.map_take, ← List.map_take]
theorem vsl_drop (L : List (List Nat)) (n : Nat) : (vsl L).drop n = vsl (L.drop n) := by rw [vsl, vss, ← List.map_drop, ← List.map_drop]
theorem vsl_cat (L M : List (List Nat)) : vsl L ++ vsl M = vsl (L ++ M) := by rw [vsl, vsl, vss, vss, ← List.map_append, ← List.map_append]
theorem vsl_rev (L : List (List Nat)) : (vsl L).reverse = vsl L.reverse := by rw [vsl, vss, ← List.map_reverse, ← List.map_reverse]
def szCh : List Int := [4, 27, 26, 25, 18, 2, 4, 30, 24, 24, 2, 30, 2, 6, 26] ++ List.replicate 7 36 ++ [8, 24]
def szLn : List Int := List.replicate 24 3 ++ List.replicate 24 2
def szSg : List Int := List.replicate 25 3
theorem szCh_ok : szCh.length ≤ 1000 ∧ ∀ s ∈ szCh, 0 < s ∧ s < 1000000 := by decide
theorem szLn_ok : szLn.length ≤ 1000 ∧ ∀ s ∈ szLn, 0 < s ∧ s < 1000000 := by decide
theorem szSg_ok : szSg.length ≤ 1000 ∧ ∀ s ∈ szSg, 0 < s ∧ s < 1000000 := by decide
theorem szCh_pos : ∀ s ∈ szCh, 0 < s := by decide
theorem szLn_pos : ∀ s ∈ szLn, 0 < s := by decide
structure HdOk (hd : List Int) : Prop where
  len : hd.length = 24
  b1 : 0 ≤ hd.getD 1 0 ∧ hd.getD 1 0 < 27
  b2 : 0 ≤ hd.getD 2 0 ∧ hd.getD 2 0 < 26
  b3 : 0 ≤ hd.getD 3 0 ∧ hd.getD 3 0 < 25
  b4 : 0 ≤ hd.getD 4 0
  b6 : 0 ≤ hd.getD 6 0
  b7 : 0 ≤ hd.getD 7 0
  b8 : 0 ≤ hd.getD 8 0
  b9 : 0 ≤ hd.getD 9 0
  b10 : 0 ≤ hd.getD 10 0 ∧ hd.getD 10 0 < 2
  b11 : 0 ≤ hd.getD 11 0
  b23 : 0 ≤ hd.getD 23 0 ∧ hd.getD 23 0 < 24
theorem hdOk (x : Int) : HdOk (digM x szCh) := by
  have h : ∀ i, i < 24 → 0 ≤ (digM x szCh).getD i 0 ∧ (digM x szCh).getD i 0 < szCh.getD i 0 := fun i hi => digM_bd szCh_pos hi
  exact ⟨digM_len _ _, h 1 (by decide), h 2 (by decide), h 3 (by decide), (h 4 (by decide)).1, (h 6 (by decide)).1, (h 7 (by decide)).1, (h 8 (by decide)).1, (h 9 (by decide)).1, h 10 (by decide), (h 11 (by decide)).1, h 23 (by decide)⟩
structure LnOk (ln : List Int) : Prop where
  len : ln.length = 48
  lo : ∀ k, k < 24 → 0 ≤ ln.getD k 0 ∧ ln.getD k 0 < 3
  hi : ∀ k, k < 24 → 0 ≤ ln.getD (24 + k) 0 ∧ ln.getD (24 + k) 0 < 2
theorem lnOk (x : Int) : LnOk (digM x szLn) := by
  have h : ∀ i, i < 48 → 0 ≤ (digM x szLn).getD i 0 ∧ (digM x szLn).getD i 0 < szLn.getD i 0 := fun i hi => digM_bd szLn_pos hi
  have e1 : ∀ k, k < 24 → szLn.getD k 0 = 3 := by decide
  have e2 : ∀ k, k < 24 → szLn.getD (24 + k) 0 = 2 := by decide
  refine ⟨digM_len _ _, fun k hk => ?_, fun k hk => ?_⟩
  · have := h k (by omega)
    rw [e1 k hk] at this
    exact this
  · have := h (24 + k) (by omega)
    rw [e2 k hk] at this
    exact this
section
variable {P : Program} {w : World} {K : PySem.W.Frag} {mg : Str → Option Value} {base : Heap}
abbrev s__law_chain : Stmt := topS 55
theorem sc__law_chain : FnScope ["script", "at", "sizes", "head", "line", "signs", "inks", "many", "other", "texts", "k", "second", "shown", "low", "base", "spot", "turn", "names", "sign", "text"] ["script", "at"] (defScope s__law_chain) := ⟨rfl, rfl, rfl, by decide +kernel, rfl, by decide +kernel, by decide +kernel⟩

abbrev sp__law_chain (K : PySem.W.Frag) : Sp := spR K (fun a : List Int × Nat => a.1.length ≤ 63 ∧ a.2 ≤ 500) (fun a => [.l (vis a.1), .i (a.2 : Int)]) fun _ => chainD K
theorem has__law_chain (T : Txt K mg) (h : At K mg "_law_chain" s__law_chain ["script", "at"]) (C__law_cell : Has P w K mg base 1 "_law_cell" ["script", "k"] (sp__law_cell K)) (C__law_digits : Has P w K mg base 1 "_law_digits" ["cell", "sizes"] (sp__law_digits K)) (C__law_inks : Has P w K mg base 1 "_law_inks" ["line"] (sp__law_inks K)) (C__law_names : Has P w K mg base 1 "_law_names" ["line", "many"] (sp__law_names K)) : Has P w K mg base 2 "_law_chain" ["script", "at"] (sp__law_chain K) := by
  refine h.hasR sc__law_chain (fun _ => rfl) fun f cdv A outer s H a vs Q E hr hp hv hk => ?_
  obtain ⟨ns, at_⟩ := a
  obtain ⟨hn, hat⟩ := hp
  replace hn : ns.length ≤ 63 := hn
  replace hat : at_ ≤ 500 := hat
  rcases hv with _ | ⟨⟨p, rfl, hs0⟩, _ | ⟨rfl, _ | _⟩⟩
  have hs : Is K H (.l (vis ns)) (.ref p) := ⟨p, rfl, hs0⟩
  have sc := sc__law_chain
  refine ⟨_, (pss_cons (ps_set (i := 2) sc.nd rfl (Or.inl rfl) (pe_op op_cat (pe_op op_cat (pe_lst (pa_cons pe_int (pa_cons pe_int (pa_cons pe_int (pa_cons pe_int (pa_cons pe_int (pa_cons pe_int (pa_cons pe_int (pa_cons pe_int (pa_cons pe_int (pa_cons pe_int (pa_cons pe_int (pa_cons pe_int (pa_cons pe_int (pa_cons pe_int (pa_cons pe_int pa_nil)))))))))))))))) (pe_op op_rep (pe_lst (pa_cons pe_int pa_nil)) pe_int)) (pe_lst (pa_cons pe_int (pa_cons pe_int pa_nil)))))
    (pss_cons (ps_set (i := 3) sc.nd rfl (Or.inl rfl) (pe_callH C__law_digits (hr.mono (by decide)) (pa_cons (pe_callH C__law_cell (hr.mono (by decide)) (pa_cons (pv 0) (pa_cons (pv 1) pa_nil))) (pa_cons (pv 2) pa_nil))))
    (pss_cons (ps_set (i := 4) sc.nd rfl (Or.inl rfl) (pe_callH C__law_digits (hr.mono (by decide)) (pa_cons (pe_callH C__law_cell (hr.mono (by decide)) (pa_cons (pv 0) (pa_cons (pe_op op_add (pv 1) pe_int) pa_nil))) (pa_cons (pe_op op_cat (pe_op op_rep (pe_lst (pa_cons pe_int pa_nil)) pe_int) (pe_op op_rep (pe_lst (pa_cons pe_int pa_nil)) pe_int)) pa_nil))))
    (pss_cons (ps_set (i := 5) sc.nd rfl (Or.inr rfl) (pe_callH C__law_digits (hr.mono (by decide)) (pa_cons (pe_callH C__law_cell (hr.mono (by decide)) (pa_cons (pv 0) (pa_cons (pe_op op_add (pv 1) pe_int) pa_nil))) (pa_cons (pe_op op_rep (pe_lst (pa_cons pe_int pa_nil)) pe_int) pa_nil))))
    (pss_cons (ps_set (i := 6) sc.nd rfl (Or.inr rfl) (pe_callH C__law_inks (hr.mono (by decide)) (pa_cons (pe_slice (sl_list_k (K := K)) (pv 3) po_none (po_some pe_int)) pa_nil)))
    (pss_cons (ps_set (i := 7) sc.nd rfl (Or.inl rfl) (pe_op op_add pe_int (pe_op op_mod (pe_callTy cr_int (by rfl) T.b_int (by decide +kernel) (pa_cons (pe_ix (ix_list_k (K := K)) (pv 3) pe_int (fun _ _ => rfl)) pa_nil)) (pe_ix (ix_list_k (K := K)) (pe_lst (pa_cons pe_int (pa_cons pe_int pa_nil))) (pe_callTy cr_int (by rfl) T.b_int (by decide +kernel) (pa_cons (pe_cmpR op_gt (pe_ix (ix_list_k (K := K)) (pv 3) pe_int (fun _ _ => rfl)) pe_int (nomark _)) pa_nil)) (fun _ _ => rfl)))))
    (pss_cons (ps_set (i := 8) sc.nd rfl (Or.inr rfl) (pe_ix (ix_list_k (K := K)) (pe_lc (own := [("sign", 18)]) (g := gName 18) (by rfl) sc.nd (pi_str (pe_strS [46, 97, 98, 99, 100, 101, 102, 103, 104, 105, 106, 107, 108, 109, 110, 111, 112, 113, 114, 115, 116, 117, 118, 119, 120, 121, 122] (by rfl))) (blkOk_by (N := ["script", "at", "sizes", "head", "line", "signs", "inks", "many", "other", "texts", "k", "second", "shown", "low", "base", "spot", "turn", "names", "sign", "text"]) (sc := defScope s__law_chain) (own := [("sign", 18)]) (by decide +kernel)) (fun _ _ _ _ _ => (pg_name (i := 18) sc.nd rfl (Or.inl rfl))) (fun _ _ _ _ _ => (pts_one (pt_cmpR op_notInS (pv 18) (pv 6) rfl))) (fun _ _ _ _ _ => (pv 18))) (pe_ix (ix_list_k (K := K)) (pv 3) pe_int (fun _ _ => rfl)) (fun _ _ => rfl)))
    (pss_cons (ps_set (i := 9) sc.nd rfl (Or.inr rfl) (pe_lst pa_nil))
    (pss_cons (ps_for PassesOwn.never rfl (pi_range1 (by rfl) T.b_range (pa_cons (pv 7) pa_nil)) (pg_name (i := 10) sc.nd rfl (Or.inl rfl)) (pss_cons (ps_set (i := 11) sc.nd rfl (Or.inl rfl) (pe_ix ix_str (pv 6) (pe_callTy cr_int (by rfl) T.b_int (by decide +kernel) (pa_cons (pe_ix (ix_list_k (K := K)) (pv 4) (pe_op op_add pe_int (pv 10)) (fun _ _ => rfl)) pa_nil)) (fun _ _ => rfl)))
    (pss_cons (ps_if (pt_cmpR op_lt (pe_op op_add (pv 10) pe_int) (pv 7) (nomark _)) (pss_one (ps_set (i := 11) sc.nd rfl (Or.inl rfl) (pe_ix ix_str (pv 6) (pe_op op_mod (pe_callTy cr_int (by rfl) T.b_int (by decide +kernel) (pa_cons (pe_op op_add (pe_op op_add (pe_ix (ix_list_k (K := K)) (pv 4) (pe_op op_add (pv 10) pe_int) (fun _ _ => rfl)) pe_int) (pe_ix (ix_list_k (K := K)) (pv 4) (pe_op op_add pe_int (pv 10)) (fun _ _ => rfl))) pa_nil)) pe_int) (fun _ _ => rfl)))) pss_nil)
    (pss_one (ps_expr (pe_bm_k (K := K) PySem.F.plainAttrs_list PySem.F.slot_list_append PySem.F.type_list_append mt_append (pv 9) (pa_cons (pe_op op_addS (pe_op op_addS (pe_op op_addS (pe_op op_mulS (pe_strS [45] (by rfl)) (pv 10)) (pe_ix ix_str (pv 6) (pe_callTy cr_int (by rfl) T.b_int (by decide +kernel) (pa_cons (pe_ix (ix_list_k (K := K)) (pv 4) (pv 10) (fun _ _ => rfl)) pa_nil)) (fun _ _ => rfl))) (pv 11)) (pe_op op_mulS (pe_strS [45] (by rfl)) (pe_op op_sub (pe_op op_sub (pv 7) pe_int) (pv 10)))) pa_nil)))))))
    (pss_cons (ps_set (i := 12) sc.nd rfl (Or.inr rfl) (pe_op op_addS (pe_bm_k (K := K) PySem.F.plainAttrs_str PySem.F.slot_str_join PySem.F.type_str_join (mt_join_k (K := K)) (pe_strS [] (by rfl)) (pa_cons (pe_lc (own := [("k", 10)]) (g := gName 10) (by rfl) sc.nd (pi_range1 (by rfl) T.b_range (pa_cons (pv 7) pa_nil)) (blkOk_by (N := ["script", "at", "sizes", "head", "line", "signs", "inks", "many", "other", "texts", "k", "second", "shown", "low", "base", "spot", "turn", "names", "sign", "text"]) (sc := defScope s__law_chain) (own := [("k", 10)]) (by decide +kernel)) (fun _ _ _ _ _ => (pg_name (i := 10) sc.nd rfl (Or.inl rfl))) (fun _ _ _ _ _ => pts_nil) (fun _ _ _ _ _ => (pe_ix ix_str (pe_ix (ix_list_k (K := K)) (pv 9) (pv 10) (fun _ _ => rfl)) (pv 10) (fun _ _ => rfl)))) pa_nil)) (pe_ix ix_str (pe_ix (ix_list_k (K := K)) (pv 9) (pe_op op_sub (pv 7) pe_int) (fun _ _ => rfl)) (pv 7) (fun _ _ => rfl))))
    (pss_cons (ps_set (i := 13) sc.nd rfl (Or.inr rfl) (pe_op op_mul (pe_callTy cr_int (by rfl) T.b_int (by decide +kernel) (pa_cons (pe_ix (ix_list_k (K := K)) (pv 3) pe_int (fun _ _ => rfl)) pa_nil)) (pe_op op_mod (pe_callTy cr_int (by rfl) T.b_int (by decide +kernel) (pa_cons (pe_ix (ix_list_k (K := K)) (pv 3) pe_int (fun _ _ => rfl)) pa_nil)) (pe_op op_add (pv 7) pe_int))))
    (pss_cons (ps_set (i := 14) sc.nd rfl (Or.inl rfl) (pe_bm_k (K := K) PySem.F.plainAttrs_str PySem.F.slot_str_join PySem.F.type_str_join (mt_join_k (K := K)) (pe_strS [] (by rfl)) (pa_cons (pe_lc (own := [("k", 10)]) (g := gName 10) (by rfl) sc.nd (pi_range1 (by rfl) T.b_range (pa_cons (pe_op op_add (pv 7) pe_int) pa_nil)) (blkOk_by (N := ["script", "at", "sizes", "head", "line", "signs", "inks", "many", "other", "texts", "k", "second", "shown", "low", "base", "spot", "turn", "names", "sign", "text"]) (sc := defScope s__law_chain) (own := [("k", 10)]) (by decide +kernel)) (fun _ _ _ _ _ => (pg_name (i := 10) sc.nd rfl (Or.inl rfl))) (fun _ _ _ _ _ => pts_nil) (fun _ _ _ _ _ => (pe_ix (ix_list_k (K := K)) (pe_lst (pa_cons (pe_ix ix_str (pv 12) (pv 10) (fun _ _ => rfl)) (pa_cons (pv 8) pa_nil))) (pe_callTy cr_int (by rfl) T.b_int (by decide +kernel) (pa_cons (pe_and (pe_cmpR op_ge (pv 10) (pv 13) (nomark _)) (pe_one (pe_cmpR op_eq (pe_ix (ix_list_k (K := K)) (pv 5) (pv 10) (fun _ _ => rfl)) pe_int (nomark _)))) pa_nil)) (fun _ _ => rfl)))) pa_nil)))
    (pss_cons (ps_set (i := 15) sc.nd rfl (Or.inl rfl) (pe_op op_mod (pe_callTy cr_int (by rfl) T.b_int (by decide +kernel) (pa_cons (pe_ix (ix_list_k (K := K)) (pv 3) pe_int (fun _ _ => rfl)) pa_nil)) (pv 7)))
    (pss_cons (ps_if (pt_cmpR op_eq (pe_ix (ix_list_k (K := K)) (pv 3) pe_int (fun _ _ => rfl)) pe_int (nomark _)) (pss_cons (ps_set (i := 15) sc.nd rfl (Or.inl rfl) (pe_op op_mod (pe_callTy cr_int (by rfl) T.b_int (by decide +kernel) (pa_cons (pe_ix (ix_list_k (K := K)) (pv 3) pe_int (fun _ _ => rfl)) pa_nil)) (pe_op op_add (pv 7) pe_int)))
    (pss_one (ps_set (i := 12) sc.nd rfl (Or.inr rfl) (pe_op op_addS (pe_op op_addS (pe_slice sl_str (pv 12) po_none (po_some (pv 15))) (pe_strS [45] (by rfl))) (pe_slice sl_str (pv 12) (po_some (pe_op op_add (pv 15) pe_int)) po_none))))) pss_nil)
    (pss_cons (ps_if (pt_cmpR op_eq (pe_ix (ix_list_k (K := K)) (pv 3) pe_int (fun _ _ => rfl)) pe_int (nomark _)) (pss_one (ps_set (i := 9) sc.nd rfl (Or.inr rfl) (pe_op op_cat (pe_slice (sl_list_k (K := K)) (pv 9) po_none (po_some (pv 15))) (pe_slice (sl_list_k (K := K)) (pv 9) (po_some (pe_op op_add (pv 15) pe_int)) po_none)))) pss_nil)
    (pss_cons (ps_if (pt_cmpR op_eq (pe_ix (ix_list_k (K := K)) (pv 3) pe_int (fun _ _ => rfl)) pe_int (nomark _)) (pss_one (ps_set (i := 9) sc.nd rfl (Or.inr rfl) (pe_op op_cat (pv 9) (pe_lst (pa_cons (pe_ix (ix_list_k (K := K)) (pv 9) (pv 15) (fun _ _ => rfl)) pa_nil))))) pss_nil)
    (pss_cons (ps_if (pt_cmpR op_eq (pe_ix (ix_list_k (K := K)) (pv 3) pe_int (fun _ _ => rfl)) pe_int (nomark _)) (pss_cons (ps_set (i := 9) sc.nd rfl (Or.inr rfl) (pe_lc (own := [("text", 19)]) (g := gName 19) (by rfl) sc.nd (pi_list_k (K := K) (pv 9)) (blkOk_by (N := ["script", "at", "sizes", "head", "line", "signs", "inks", "many", "other", "texts", "k", "second", "shown", "low", "base", "spot", "turn", "names", "sign", "text"]) (sc := defScope s__law_chain) (own := [("text", 19)]) (by decide +kernel)) (fun _ _ _ _ _ => (pg_name (i := 19) sc.nd rfl (Or.inl rfl))) (fun _ _ _ _ _ => pts_nil) (fun _ _ _ _ _ => (pe_revS (pv 19)))))
    (pss_cons (ps_set (i := 12) sc.nd rfl (Or.inr rfl) (pe_revS (pv 12)))
    (pss_one (ps_set (i := 14) sc.nd rfl (Or.inl rfl) (pe_revS (pv 14)))))) pss_nil)
    (pss_cons (ps_set (i := 16) sc.nd rfl (Or.inl rfl) (pe_op op_mod (pe_callTy cr_int (by rfl) T.b_int (by decide +kernel) (pa_cons (pe_ix (ix_list_k (K := K)) (pv 3) pe_int (fun _ _ => rfl)) pa_nil)) (pe_callB (cr_len_k (K := K)) (by rfl) T.b_len (by decide +kernel) (pa_cons (pv 9) pa_nil))))
    (pss_cons (ps_set (i := 9) sc.nd rfl (Or.inr rfl) (pe_op op_cat (pe_slice (sl_list_k (K := K)) (pv 9) (po_some (pv 16)) po_none) (pe_slice (sl_list_k (K := K)) (pv 9) po_none (po_some (pv 16)))))
    (pss_cons (ps_if (pt_cmpR op_eq (pe_ix (ix_list_k (K := K)) (pv 3) pe_int (fun _ _ => rfl)) pe_int (nomark _)) (pss_one (ps_set (i := 9) sc.nd rfl (Or.inr rfl) (pe_revL_k (K := K) (pv 9)))) pss_nil)
    (pss_cons (ps_set (i := 17) sc.nd rfl (Or.inr rfl) (pe_callH C__law_names (hr.mono (by decide)) (pa_cons (pe_slice (sl_list_k (K := K)) (pv 3) (po_some pe_int) po_none) (pa_cons (pe_callB (cr_len_k (K := K)) (by rfl) T.b_len (by decide +kernel) (pa_cons (pv 9) pa_nil)) pa_nil))))
    (pss_one (ps_ret (pe_lst (pa_cons (pe_op op_add (pv 7) pe_int) (pa_cons (pv 6) (pa_cons (pe_lc (own := [("k", 10)]) (g := gName 10) (by rfl) sc.nd (pi_range1 (by rfl) T.b_range (pa_cons (pe_callB (cr_len_k (K := K)) (by rfl) T.b_len (by decide +kernel) (pa_cons (pv 9) pa_nil)) pa_nil)) (blkOk_by (N := ["script", "at", "sizes", "head", "line", "signs", "inks", "many", "other", "texts", "k", "second", "shown", "low", "base", "spot", "turn", "names", "sign", "text"]) (sc := defScope s__law_chain) (own := [("k", 10)]) (by decide +kernel)) (fun _ _ _ _ _ => (pg_name (i := 10) sc.nd rfl (Or.inl rfl))) (fun _ _ _ _ _ => pts_nil) (fun _ _ _ _ _ => (pe_lst (pa_cons (pe_ix (ix_list_k (K := K)) (pv 17) (pv 10) (fun _ _ => rfl)) (pa_cons (pe_ix (ix_list_k (K := K)) (pv 9) (pv 10) (fun _ _ => rfl)) pa_nil))))) (pa_cons (pv 14) (pa_cons (pv 12) pa_nil))))))))))))))))))))))))))))), ?_⟩
  refine a_asg (K := K) (d := .n (vis szCh)) (Er.to (er_op (er_op (er_lst (vs := vis [4, 27, 26, 25, 18, 2, 4, 30, 24, 24, 2, 30, 2, 6, 26]) ?g1 (by decide)) (er_same (n := 36) (k := 7) er_c (by decide)) (ro_cat (by simp))) (er_lst (vs := vis [8, 24]) ?g2 (by decide)) (ro_cat (by simp))) rfl) fun vz H1 e1 hz => ?_
  case g1 => repeat (first | exact era_nil | refine era_cons er_c ?_)
  case g2 => repeat (first | exact era_nil | refine era_cons er_c ?_)
  refine a_asg (K := K) (d := .n (vis (digM (cellM ns at_) szCh))) (er_call (cellM ns at_, szCh) (era_cons (er_call (ns, at_) (era_cons (er_var rfl (hs.mono e1)) (era_cons (er_v rfl) era_nil)) rfl ⟨hn, by show at_ ≤ 1000; omega⟩) (era_cons (Er.n2l (er_var rfl hz)) era_nil)) rfl szCh_ok) fun vh H2 e2 hh => ?_
  have E2 := e1.trans e2
  refine a_asg (K := K) (d := .n (vis (digM (cellM ns (at_ + 1)) szLn))) (er_call (cellM ns (at_ + 1), szLn) (era_cons (er_call (ns, at_ + 1) (era_cons (er_var rfl (hs.mono E2)) (era_cons (Er.to (er_op (er_v rfl) er_c ro_I0) rfl) era_nil)) rfl ⟨hn, by show at_ + 1 ≤ 1000; omega⟩) (era_cons (Er.n2l (Er.to (er_op (er_same (n := 3) (k := 24) er_c (by decide)) (er_same (n := 2) (k := 24) er_c (by decide)) (ro_cat (by simp))) (by rw [← List.map_append]; rfl))) era_nil)) rfl szLn_ok) fun vl H3 e3 hl => ?_
  have E3 := E2.trans e3
  refine a_asg (K := K) (d := .n (vis (digM (cellM ns (at_ + 2)) szSg))) (er_call (cellM ns (at_ + 2), szSg) (era_cons (er_call (ns, at_ + 2) (era_cons (er_var rfl (hs.mono E3)) (era_cons (Er.to (er_op (er_v rfl) er_c ro_I0) rfl) era_nil)) rfl ⟨hn, by show at_ + 2 ≤ 1000; omega⟩) (era_cons (Er.n2l (er_same (n := 3) (k := 25) er_c (by decide))) era_nil)) rfl szSg_ok) fun vg H4 e4 hg => ?_
  have E4 := E3.trans e4
  have hho := hdOk (cellM ns at_)
  have hlo := lnOk (cellM ns (at_ + 1))
  have hgl : (digM (cellM ns (at_ + 2)) szSg).length = 25 := digM_len _ _
  replace hh := hh.mono (e3.trans e4)
  replace hl := hl.mono e4
  generalize digM (cellM ns at_) szCh = hd at hh hho
  generalize digM (cellM ns (at_ + 1)) szLn = ln at hl hlo
  generalize digM (cellM ns (at_ + 2)) szSg = sg at hg hgl
  have hdl := hho.len
  have lnl := hlo.len
  have t0 : ∀ j, j < 4 → (hd.take 4).getD j 0 = hd.getD j 0 := fun j hj => by
    rw [List.getD_eq_getElem?_getD, List.getD_eq_getElem?_getD, List.getElem?_take, if_pos hj]
  have iok : InkOk (hd.take 4) := ⟨by rw [List.length_take]; omega, by rw [List.length_take]; omega, by rw [t0 1 (by decide)]; exact hho.b1.1, by rw [t0 1 (by decide)]; exact hho.b1.2⟩
  have iks := inksM_ok iok (by rw [t0 2 (by decide)]; exact hho.b2) (by rw [t0 3 (by decide)]; exact hho.b3)
  refine a_setv (K := K) (x := .str (S (inksM (hd.take 4)))) (er_call (hd.take 4) (era_cons (Er.n2l (Er.to (er_cutTo (n := 4) (Er.n2l (er_var rfl hh)) er_c) (by rw [vis, ← List.map_take]))) era_nil) rfl iok) fun H5 e5 => ?_
  have E5 := E4.trans e5
  generalize inksM (hd.take 4) = ik at iks
  have ikl := iks.len
  have hd5 := hh.mono e5
  have ln5 := hl.mono e5
  have sg5 := hg.mono e5
  have num : ∀ {σ : L2.St} {H' : Hp} {j : Nat}, Ex H5 H' → σ[3]? = some (some vh) → j < 24 → Er K (tOp (rIxL K) (tVar 3) (tC (.int (j : Int)))) σ H' (.i (hd.getD j 0)) := fun {σ H' j} e q hj => er_numN (er_var q (hd5.mono e)) er_c (by omega)
  -- many
  obtain ⟨many, hmN, hm6, hm23⟩ : ∃ many : Nat, (6 + hd.getD 4 0 % (if decide (hd.getD 6 0 > 0) = true then 18 else 7) : Int) = (many : Int) ∧ 6 ≤ many ∧ many ≤ 23 := by
    cases hb : decide (hd.getD 6 0 > 0) with
    | true =>
      have q0 : 0 ≤ hd.getD 4 0 % 18 := Int.emod_nonneg _ (by decide)
      have q1 : hd.getD 4 0 % 18 < 18 := Int.emod_lt_of_pos _ (by decide)
      exact ⟨6 + (hd.getD 4 0 % 18).toNat, by rw [if_pos rfl]; omega, by omega, by omega⟩
    | false =>
      have q0 : 0 ≤ hd.getD 4 0 % 7 := Int.emod_nonneg _ (by decide)
      have q1 : hd.getD 4 0 % 7 < 7 := Int.emod_lt_of_pos _ (by decide)
      exact ⟨6 + (hd.getD 4 0 % 7).toNat, by rw [if_neg Bool.false_ne_true]; omega, by omega, by omega⟩
  refine a_setv (K := K) (x := .int (many : Int)) (Er.to (er_op er_c (er_op (er_cb (era_cons (num (j := 4) (Ex.refl _) rfl (by decide)) era_nil) rc_int) (Er.to (d' := .i (if decide (hd.getD 6 0 > 0) = true then 18 else 7)) (er_pick er_c er_c (er_op (num (j := 6) (Ex.refl _) rfl (by decide)) er_c ro_I0)) ?_) (ro_mod ?_)) ro_I0) (congrArg Dd.i hmN)) fun H6 e6 => ?_
  · split <;> rfl
  · split <;> decide
  have E6 := E5.trans e6
  -- other
  obtain ⟨oc, hoc⟩ : ∃ oc, (othersM ik).getD (hd.getD 23 0).toNat 0 = oc := ⟨_, rfl⟩
  have lo := others_len iks
  refine a_setv (K := K) (x := .str (S [oc])) (Er.to (er_op (d2 := .i (hd.getD 23 0)) (Er.to (d' := .n (vsl ((othersM ik).map fun c => [c]))) (c_lcS (K := K) (z := alls) (vs := [18]) (fun c => !decide (c ∈ ik)) (fun c => V.str (S [c])) er_c (by decide) (fun _ => rfl) ?_ ?_) ?_) (num (j := 23) e6 rfl (by decide)) (ro_ixSN (L := (othersM ik).map fun c => [c]) hho.b23.1 (by rw [List.length_map]; have := hho.b23; omega))) ?_) fun H7 e7 => ?_
  · intro i c H8 e8 hc
    exact et1 (K := K) (er_op (d1 := .s (S [c])) (d2 := .s (S ik)) (er_v rfl) (er_v rfl) (ro_niS (c := c)))
  · intro i c H8 e8 hc _
    exact er_v rfl
  · show Dd.n ((othersM ik).map fun c => V.str (S [c])) = _
    rw [vsl, vss, List.map_map, List.map_map]
    rfl
  · have q : (hd.getD 23 0).toNat < (othersM ik).length := by have := hho.b23; omega
    rw [getD_ones q, hoc]
  have E7 := E6.trans e7
  have E57 := e6.trans e7
  have hd7 := hd5.mono E57
  have ln7 := ln5.mono E57
  have sg7 := sg5.mono E57
  have num7 : ∀ {σ : L2.St} {H' : Hp} {j : Nat}, Ex H7 H' → σ[3]? = some (some vh) → j < 24 → Er K (tOp (rIxL K) (tVar 3) (tC (.int (j : Int)))) σ H' (.i (hd.getD j 0)) := fun {σ H' j} e q hj => er_numN (er_var q (hd7.mono e)) er_c (by omega)
  have nat7 : ∀ {σ : L2.St} {H' : Hp} {j : Nat}, Ex H7 H' → σ[3]? = some (some vh) → j < 24 → 0 ≤ hd.getD j 0 → Er K (tCB rInt1 (tCons (tOp (rIxL K) (tVar 3) (tC (.int (j : Int)))) tNil)) σ H' (.i (((hd.getD j 0).toNat : Nat) : Int)) := fun {σ H' j} e q hj h0 => er_nat (er_var q (hd7.mono e)) er_c (by omega) h0
  -- texts
  refine a_new fun o H8 ho e8 h8 => ?_
  have E8 := E7.trans e8
  have ho0 : H7 o = none := ho
  refine b_forR1 (K := K) (n := many) (era_cons (er_v rfl) era_nil) (by omega) (fun k σ' H' => ∃ L y10 y11, σ' = [some (.ref p), some (.int (at_ : Int)), some vz, some vh, some vl, some vg, some (.str (S ik)), some (.int (many : Int)), some (.str (S [oc])), some (.ref o), y10, y11, none, none, none, none, none, none, none, none] ∧ Ex H7 H' ∧ H' o = some (.lst (vsl L)) ∧ L.length = k ∧ ∀ t ∈ L, TX (many + 1) t) (fun H9 e9 => ⟨[], none, none, rfl, e8.trans e9, e9 o _ h8, rfl, by simp⟩) ?_ ?_
  · rintro k σ' H' hk2 ⟨L, y10, y11, rfl, e, hO, lL, hT⟩
    have lnA := ln7.mono e
    obtain ⟨b1, b2⟩ := hlo.hi k (by omega)
    obtain ⟨b3, b4⟩ := hlo.lo k (by omega)
    have m1 : ik.getD (ln.getD (24 + k) 0).toNat 0 ∈ alls := iks.mem _ (getD_memL (by omega))
    have m2 : ik.getD (ln.getD k 0).toNat 0 ∈ alls := iks.mem _ (getD_memL (by omega))
    have q0 : 0 ≤ (ln.getD (k + 1) 0 + 1 + ln.getD (24 + k) 0) % 3 := Int.emod_nonneg _ (by decide)
    have q1 : (ln.getD (k + 1) 0 + 1 + ln.getD (24 + k) 0) % 3 < 3 := Int.emod_lt_of_pos _ (by decide)
    have m3 : ik.getD ((ln.getD (k + 1) 0 + 1 + ln.getD (24 + k) 0) % 3).toNat 0 ∈ alls := iks.mem _ (getD_memL (by omega))
    have at24 : ∀ {σ : L2.St} {H' : Hp}, Ex H7 H' → σ[4]? = some (some vl) → σ[10]? = some (some (.int (k : Int))) → Er K (tOp (rIxL K) (tVar 4) (tOp (rI0 fun i j => .int (i + j)) (tC (.int 24)) (tVar 10))) σ H' (.i (ln.getD (24 + k) 0)) := fun {σ H'} e q r => er_numN (n := 24 + k) (er_var q (ln7.mono e)) (Er.to (er_op er_c (er_v r) ro_I0) (by rw [Int.natCast_add]; rfl)) (by omega)
    refine a_setv (K := K) (x := .str (S [ik.getD (ln.getD (24 + k) 0).toNat 0])) (er_sign (l := ik) (n := (ln.getD (24 + k) 0).toNat) (er_v rfl) (Er.to (er_cb (era_cons (at24 e rfl rfl) era_nil) rc_int) (by rw [Int.toNat_of_nonneg b1])) (by omega) (by omega)) fun H9 e9 => ?_
    refine a_ifSetC (K := K) (b := decide (((k : Int) + 1) < (many : Int))) (c := ik.getD ((ln.getD (k + 1) 0 + 1 + ln.getD (24 + k) 0) % 3).toNat 0) (e := ik.getD (ln.getD (24 + k) 0).toNat 0) (et1 (er_op (er_op (er_v rfl) er_c ro_I0) (er_v rfl) ro_I0)) (fun hb => er_sign (l := ik) (n := ((ln.getD (k + 1) 0 + 1 + ln.getD (24 + k) 0) % 3).toNat) (er_v rfl) (Er.to (er_op (er_cb (era_cons (er_op (er_op (er_numN (n := k + 1) (er_var rfl (ln7.mono (e.trans e9))) (Er.to (er_op (er_v rfl) er_c ro_I0) (by rw [Int.natCast_add]; rfl)) (by omega)) er_c ro_I0) (at24 (e.trans e9) rfl rfl) ro_I0) era_nil) rc_int) er_c (ro_mod (by decide))) (by rw [Int.toNat_of_nonneg q0])) (by omega) (by omega)) rfl fun H10 e10 => ?_
    have m4 : (if decide (((k : Int) + 1) < (many : Int)) = true then ik.getD ((ln.getD (k + 1) 0 + 1 + ln.getD (24 + k) 0) % 3).toNat 0 else ik.getD (ln.getD (24 + k) 0).toNat 0) ∈ alls := by
      split
      · exact m3
      · exact m1
    generalize (if decide (((k : Int) + 1) < (many : Int)) = true then ik.getD ((ln.getD (k + 1) 0 + 1 + ln.getD (24 + k) 0) % 3).toNat 0 else ik.getD (ln.getD (24 + k) 0).toNat 0) = c2 at m4
    generalize hc1 : ik.getD (ln.getD k 0).toNat 0 = c1 at m2
    have e910 := e9.trans e10
    refine a_app (K := K) (x := .str (S (List.replicate k 45 ++ [c1] ++ [c2] ++ List.replicate (many - 1 - k) 45))) (e910 o _ hO) (er_v rfl) (er_op (K := K) (d1 := .s (S (List.replicate k 45 ++ [c1] ++ [c2]))) (d2 := .s (S (List.replicate (many - 1 - k) 45))) (er_op (K := K) (d1 := .s (S (List.replicate k 45 ++ [c1]))) (d2 := .s (S [c2])) (er_op (K := K) (d1 := .s (S (List.replicate k 45))) (d2 := .s (S [c1])) (er_dash er_c (er_v rfl) (by omega)) (Er.to (er_sign (l := ik) (n := (ln.getD k 0).toNat) (er_v rfl) (Er.to (er_cb (era_cons (er_numN (n := k) (er_var rfl (lnA.mono e910)) (er_v rfl) (by omega)) era_nil) rc_int) (by rw [Int.toNat_of_nonneg b3])) (by omega) (by omega)) (by rw [hc1])) (ro_addC (by simp; omega))) (er_v rfl) (ro_addC (by simp; omega))) (er_dash er_c (Er.to (er_op (er_op (er_v rfl) er_c ro_I0) (er_v rfl) ro_I0) (congrArg Dd.i (show ((many : Int) - 1 - (k : Int)) = ((many - 1 - k : Nat) : Int) by omega))) (by omega)) (ro_addC (by simp; omega))) (by rw [vsl_len]; omega) fun H11 e11 => ?_
    refine ⟨L ++ [List.replicate k 45 ++ [c1] ++ [c2] ++ List.replicate (many - 1 - k) 45], _, _, rfl, Ex.mut (e.trans (e910.trans e11)) ho0, ?_, ?_, fun t ht => ?_⟩
    · rw [upd_same, vsl_app]
    · rw [List.length_append, lL]
      rfl
    · rcases List.mem_append.mp ht with ht | ht
      · exact hT t ht
      · rw [List.mem_singleton.mp ht]
        exact tx_mk (by omega) m2 m4
  · rintro σ' H9 ⟨L, y10, y11, rfl, e79, hO, lL, hT⟩
    have hx9 : Is K H9 (.n (vsl L)) (.ref o) := ⟨o, rfl, hO⟩
    have sg9 := sg7.mono e79
    have lT : ∀ k, k < many → (L.getD k []).length = many + 1 := fun k hk => (hT _ (getD_memL (by omega))).l
    have tat : ∀ {σ : L2.St} {H' : Hp} {tk : TE} {k : Nat}, Ex H9 H' → σ[9]? = some (some (.ref o)) → Er K tk σ H' (.i (k : Int)) → k < many → Er K (tOp (rIxL K) (tVar 9) tk) σ H' (.s (S (L.getD k []))) := fun {σ H' tk k} e q h2 hk => Er.to (er_op (er_var q (hx9.mono e)) h2 (ro_ixSN (i := (k : Int)) (by omega) (by omega))) (by rw [Int.toNat_natCast])
    obtain ⟨s0, hs0⟩ : ∃ s0, ((List.range many).map fun k => (L.getD k []).getD k 0) ++ [(L.getD (many - 1) []).getD many 0] = s0 := ⟨_, rfl⟩
    have ls0 : s0.length = many + 1 := by rw [← hs0]; simp
    refine a_setv (K := K) (x := .str (S s0)) (Er.to (er_op (K := K) (d1 := .s (S ((List.range many).map fun k => (L.getD k []).getD k 0))) (d2 := .s (S [(L.getD (many - 1) []).getD many 0])) (er_bm (K := K) (d0 := .s (S [])) (ds := [.n (((List.range many).map fun k => (L.getD k []).getD k 0).map fun c => V.str (S [c]))]) er_c (era_cons (Er.to (er_lcR' (n := many) (vs := [10]) (fun k => V.str (S [(L.getD k []).getD k 0])) (era_cons (er_v rfl) era_nil) (by omega) (fun _ => rfl) fun k H' e' hk3 => er_sign (l := L.getD k []) (n := k) (tat e' rfl (er_v rfl) hk3) (er_v rfl) (by rw [lT k hk3]; omega) (by rw [lT k hk3]; omega)) (by rw [List.map_map]; rfl)) era_nil) (rm_joinC (by rw [List.length_map, List.length_range]; omega))) (er_sign (l := L.getD (many - 1) []) (n := many) (tat (k := many - 1) (Ex.refl _) rfl (Er.to (er_op (er_v rfl) er_c ro_I0) (congrArg Dd.i (show ((many : Int) - 1) = ((many - 1 : Nat) : Int) by omega))) (by omega)) (er_v rfl) (by rw [lT _ (by omega)]; omega) (by rw [lT _ (by omega)]; omega)) (ro_addC (by simp; omega))) (by rw [hs0])) fun H10 e10 => ?_
    obtain ⟨low, hlow⟩ : ∃ low, hd.getD 10 0 * (hd.getD 11 0 % ((many : Int) + 1)) = low := ⟨_, rfl⟩
    have E10 := e79.trans e10
    refine a_setv (K := K) (x := .int low) (Er.to (er_op (er_cb (era_cons (num7 (j := 10) E10 rfl (by decide)) era_nil) rc_int) (er_op (er_cb (era_cons (num7 (j := 11) E10 rfl (by decide)) era_nil) rc_int) (er_op (er_v rfl) er_c ro_I0) (ro_mod (by omega))) (ro_mulL (by have := hho.b10; omega) (by have := hho.b10; omega))) (congrArg Dd.i hlow)) fun H11 e11 => ?_
    have E11 := E10.trans e11
    obtain ⟨b0, hb0⟩ : ∃ b0, ((List.range (many + 1)).map fun k => if (decide (((k : Nat) : Int) ≥ low) && decide (sg.getD k 0 = 0)) = true then oc else s0.getD k 0) = b0 := ⟨_, rfl⟩
    have lb0 : b0.length = many + 1 := by rw [← hb0]; simp
    refine a_setv (K := K) (x := .str (S b0)) (Er.to (er_bm (K := K) (d0 := .s (S [])) (ds := [.n (((List.range (many + 1)).map fun k => if (decide (((k : Nat) : Int) ≥ low) && decide (sg.getD k 0 = 0)) = true then oc else s0.getD k 0).map fun c => V.str (S [c]))]) er_c (era_cons (Er.to (er_lcR' (n := many + 1) (vs := [10]) (fun k => V.str (S [if (decide (((k : Nat) : Int) ≥ low) && decide (sg.getD k 0 = 0)) = true then oc else s0.getD k 0])) (era_cons (Er.to (er_op (er_v rfl) er_c ro_I0) rfl) era_nil) (by omega) (fun _ => rfl) fun k H' e' hk3 => er_pickC (er_sign (l := s0) (n := k) (er_v rfl) (er_v rfl) (by omega) (by omega)) (er_v rfl) (er_andV (er_op (er_v rfl) (er_v rfl) ro_I0) fun _ => er_op (er_numN (n := k) (er_var rfl (sg9.mono ((e10.trans e11).trans e'))) (er_v rfl) (by omega)) er_c ro_eqI)) (by rw [List.map_map]; rfl)) era_nil) (rm_joinC (by rw [List.length_map, List.length_range]; omega))) (by rw [hb0])) fun H12 e12 => ?_
    have E12 := E11.trans e12
    have hmod : ∀ a n : Nat, 0 < n → ((a : Int) % (n : Int)) = ((a % n : Nat) : Int) := fun a n _ => (Int.natCast_emod a n).symm
    refine a_setv (K := K) (x := .int (((hd.getD 8 0).toNat % many : Nat) : Int)) (Er.to (er_op (nat7 (j := 8) E12 rfl (by decide) hho.b8) (er_v rfl) (ro_mod (by omega))) (congrArg Dd.i (hmod _ _ (by omega)))) fun H13 e13 => ?_
    have hsp0 : (hd.getD 8 0).toNat % many < many := Nat.mod_lt _ (by omega)
    have F13 : Ex H9 H13 := ((e10.trans e11).trans e12).trans e13
    refine a_whenR (K := K) (fun σ2 H2 => ∃ sp sh, σ2 = [some (.ref p), some (.int (at_ : Int)), some vz, some vh, some vl, some vg, some (.str (S ik)), some (.int (many : Int)), some (.str (S [oc])), some (.ref o), y10, y11, some (.str (S sh)), some (.int low), some (.str (S b0)), some (.int ((sp : Nat) : Int)), none, none, none, none] ∧ Ex H9 H2 ∧ sh.length = many + 1 ∧ (¬ hd.getD 6 0 = 0 → sp < many)) (et1 (er_op (num7 (j := 6) (e79.trans F13) rfl (by decide)) er_c ro_eqI)) ?r1 ?r2 ?r3
    case r3 =>
      intro hb H14 e14
      exact ⟨_, s0, rfl, F13.trans e14, ls0, fun _ => hsp0⟩
    case r2 =>
      intro hr2 hb H14 e14
      have hb6 := of_decide_eq_true hb
      refine a_setv (K := K) (x := .int (((hd.getD 7 0).toNat % (many + 1) : Nat) : Int)) (Er.to (er_op (nat7 (j := 7) ((e79.trans F13).trans e14) rfl (by decide) hho.b7) (er_op (er_v rfl) er_c ro_I0) (ro_mod (by omega))) (congrArg Dd.i (hmod _ (many + 1) (by omega)))) fun H15 e15 => ?_
      have hsp1 : (hd.getD 7 0).toNat % (many + 1) < many + 1 := Nat.mod_lt _ (by omega)
      generalize (hd.getD 7 0).toNat % (many + 1) = sp at hsp1
      refine a_setv1 (K := K) (x := .str (S (s0.take sp ++ [45] ++ s0.drop (sp + 1)))) (er_op (K := K) (d1 := .s (S (s0.take sp ++ [45]))) (d2 := .s (S (s0.drop (sp + 1)))) (er_op (K := K) (d1 := .s (S (s0.take sp))) (d2 := .s (S [45])) (er_slTo (er_v rfl) (by omega) (er_v rfl)) er_c (ro_addC (by simp; omega))) (er_slFrom (er_v rfl) (by omega) (Er.to (er_op (er_v rfl) er_c ro_I0) rfl)) (ro_addC (by simp; omega))) fun H16 e16 => ?_
      refine hr2 _ _ ⟨sp, _, rfl, F13.trans (e14.trans (e15.trans e16)), ?_, fun z => absurd hb6 z⟩
      rw [List.length_append, List.length_append, List.length_take, List.length_drop, List.length_singleton]
      omega
    case r1 =>
      rintro σ2 H14 ⟨sp, sh, rfl, F14, lsh, hsp⟩
      clear e10 e11 e12 e13 F13 hsp0
      have h14 := hx9.mono F14
      refine a_whenR (K := K) (fun σ2 H2 => ∃ v9 L2, σ2 = [some (.ref p), some (.int (at_ : Int)), some vz, some vh, some vl, some vg, some (.str (S ik)), some (.int (many : Int)), some (.str (S [oc])), some v9, y10, y11, some (.str (S sh)), some (.int low), some (.str (S b0)), some (.int ((sp : Nat) : Int)), none, none, none, none] ∧ Ex H14 H2 ∧ Is K H2 (.n (vsl L2)) v9 ∧ (¬ hd.getD 6 0 = 1 → L2.length = many) ∧ (1 ≤ L2.length ∧ L2.length ≤ many) ∧ ∀ t ∈ L2, TX (many + 1) t) (et1 (er_op (num7 (j := 6) (e79.trans F14) rfl (by decide)) er_c ro_eqI)) ?r4 ?r5 ?r6
      case r6 =>
        intro hb H15 e15
        exact ⟨_, L, rfl, e15, h14.mono e15, fun _ => lL, ⟨by omega, by omega⟩, hT⟩
      case r5 =>
        intro hr2 hb H15 e15
        have hb6 := of_decide_eq_true hb
        have hsp2 := hsp (by rw [hb6]; decide)
        have hn15 : Is K H15 (.n (vsl L)) (.ref o) := h14.mono e15
        refine a_asg1 (K := K) (d := .n (vsl (L.take sp ++ L.drop (sp + 1)))) (Er.to (er_op (er_cutTo (n := sp) (Er.n2l (er_var rfl hn15)) (er_v rfl)) (er_cutFrom (n := sp + 1) (Er.n2l (er_var rfl hn15)) (Er.to (er_op (er_v rfl) er_c ro_I0) rfl)) (ro_cat (by rw [List.length_take, List.length_drop, vsl_len]; omega))) (by rw [vsl_take, vsl_drop, vsl_cat])) fun v9 H16 e16 h9 => ?_
        refine hr2 _ _ ⟨v9, _, rfl, e15.trans e16, h9, fun z => absurd hb6 z, ?_, fun t ht => ?_⟩
        · rw [List.length_append, List.length_take, List.length_drop]
          omega
        · rcases List.mem_append.mp ht with ht | ht
          · exact hT t (List.mem_of_mem_take ht)
          · exact hT t (List.mem_of_mem_drop ht)
      case r4 =>
        rintro σ2 H15 ⟨v9, L2, rfl, e15, h9, hl2, ⟨lo2, hi2⟩, hT2⟩
        have F15 := F14.trans e15
        refine a_whenR (K := K) (fun σ2 H2 => ∃ v9 L2, σ2 = [some (.ref p), some (.int (at_ : Int)), some vz, some vh, some vl, some vg, some (.str (S ik)), some (.int (many : Int)), some (.str (S [oc])), some v9, y10, y11, some (.str (S sh)), some (.int low), some (.str (S b0)), some (.int ((sp : Nat) : Int)), none, none, none, none] ∧ Ex H15 H2 ∧ Is K H2 (.n (vsl L2)) v9 ∧ (1 ≤ L2.length ∧ L2.length ≤ 24) ∧ ∀ t ∈ L2, TX (many + 1) t) (et1 (er_op (num7 (j := 6) (e79.trans F15) rfl (by decide)) er_c ro_eqI)) ?r7 ?r8 ?r9
        case r9 =>
          intro hb H16 e16
          exact ⟨_, L2, rfl, e16, h9.mono e16, ⟨by omega, by omega⟩, hT2⟩
        case r8 =>
          intro hr2 hb H16 e16
          have hb6 := of_decide_eq_true hb
          have hsp2 := hsp (by rw [hb6]; decide)
          have hl3 := hl2 (by rw [hb6]; decide)
          have h16 := h9.mono e16
          refine a_asg1 (K := K) (d := .n (vsl (L2 ++ [L2.getD sp []]))) (Er.to (er_op (er_var rfl h16) (er_lst (vs := [.str (S (L2.getD sp []))]) (era_cons (Er.to (er_op (er_var rfl h16) (er_v rfl) (ro_ixSN (i := (sp : Int)) (by omega) (by omega))) (by rw [Int.toNat_natCast])) era_nil) (by simp)) (ro_cat (by rw [vsl_len]; simp; omega))) (by rw [vsl_app])) fun v9 H17 e17 h9 => ?_
          refine hr2 _ _ ⟨v9, _, rfl, e16.trans e17, h9, ?_, fun t ht => ?_⟩
          · rw [List.length_append, List.length_singleton]
            omega
          · rcases List.mem_append.mp ht with ht | ht
            · exact hT2 t ht
            · rw [List.mem_singleton.mp ht]
              exact hT2 _ (getD_memL (by omega))
        case r7 =>
          rintro σ2 H16 ⟨v9, L2, rfl, e16, h9, ⟨lo2, hi2⟩, hT2⟩
          have F16 := F15.trans e16
          refine a_whenR (K := K) (fun σ2 H2 => ∃ v9 L2 sh b, σ2 = [some (.ref p), some (.int (at_ : Int)), some vz, some vh, some vl, some vg, some (.str (S ik)), some (.int (many : Int)), some (.str (S [oc])), some v9, y10, y11, some (.str (S sh)), some (.int low), some (.str (S b)), some (.int ((sp : Nat) : Int)), none, none, none, none] ∧ Ex H16 H2 ∧ Is K H2 (.n (vsl L2)) v9 ∧ (1 ≤ L2.length ∧ L2.length ≤ 24) ∧ (sh.length = many + 1 ∧ b.length = many + 1) ∧ ∀ t ∈ L2, TX (many + 1) t) (et1 (er_op (num7 (j := 5) (e79.trans F16) rfl (by decide)) er_c ro_eqI)) ?s1 ?s2 ?s3
          case s3 =>
            intro hb H17 e17
            exact ⟨_, L2, sh, b0, rfl, e17, h9.mono e17, ⟨by omega, by omega⟩, ⟨lsh, lb0⟩, hT2⟩
          case s2 =>
            intro hr2 hb H17 e17
            refine a_asg (K := K) (d := .n (vsl (L2.map List.reverse))) (Er.to (er_lcL (K := K) (its := L2) (inj := fun t => V.str (S t)) (vs := [19]) (fun _ => true) (fun t => V.str (S t.reverse)) (Er.n2l (Er.to (er_var rfl (h9.mono e17)) (by rw [vsl, vss, List.map_map]; rfl))) (by omega) (fun _ => rfl) (fun i t H' e' hi H6 e6 Q q => q H6 (Ex.refl _)) (fun i t H' e' hi _ => er_revS (er_v rfl) (by have := (hT2 t (List.mem_of_getElem? hi)).l; omega))) (by rw [filt_true, vsl, vss, List.map_map, List.map_map]; rfl)) fun v9 H18 e18 h9 => ?_
            refine a_setv (K := K) (x := .str (S sh.reverse)) (er_revS (er_v rfl) (by omega)) fun H19 e19 => ?_
            refine a_setv1 (K := K) (x := .str (S b0.reverse)) (er_revS (er_v rfl) (by omega)) fun H20 e20 => ?_
            refine hr2 _ _ ⟨v9, L2.map List.reverse, _, _, rfl, e17.trans (e18.trans (e19.trans e20)), h9.mono (e19.trans e20), by rw [List.length_map]; exact ⟨lo2, hi2⟩, ⟨by rw [List.length_reverse]; exact lsh, by rw [List.length_reverse]; exact lb0⟩, fun t ht => ?_⟩
            obtain ⟨u, hu, rfl⟩ := List.mem_map.mp ht
            exact (hT2 u hu).rev
          case s1 =>
            rintro σ2 H17 ⟨v9, L2, sh, b, rfl, e17, h9, ⟨lo2, hi2⟩, ⟨lsh, lb⟩, hT2⟩
            have F17 := F16.trans e17
            refine a_setv (K := K) (x := .int (((hd.getD 9 0).toNat % L2.length : Nat) : Int)) (Er.to (er_op (nat7 (j := 9) (e79.trans F17) rfl (by decide) hho.b9) (Er.to (er_cb (era_cons (er_var rfl h9) era_nil) rc_lenN) (by rw [vsl_len])) (ro_mod (by omega))) (congrArg Dd.i (hmod _ _ (by omega)))) fun H18 e18 => ?_
            have ht1 : (hd.getD 9 0).toNat % L2.length < L2.length := Nat.mod_lt _ (by omega)
            generalize (hd.getD 9 0).toNat % L2.length = tn at ht1
            have h18 := h9.mono e18
            refine a_asg (K := K) (d := .n (vsl (L2.drop tn ++ L2.take tn))) (Er.to (er_op (er_cutFrom (n := tn) (Er.n2l (er_var rfl h18)) (er_v rfl)) (er_cutTo (n := tn) (Er.n2l (er_var rfl h18)) (er_v rfl)) (ro_cat (by rw [List.length_take, List.length_drop, vsl_len]; omega))) (by rw [vsl_take, vsl_drop, vsl_cat])) fun v9b H19 e19 h9b => ?_
            have lD : (L2.drop tn ++ L2.take tn).length = L2.length := by rw [List.length_append, List.length_take, List.length_drop]; omega
            have hD : ∀ t ∈ L2.drop tn ++ L2.take tn, TX (many + 1) t := fun t ht => by
              rcases List.mem_append.mp ht with ht | ht
              · exact hT2 t (List.mem_of_mem_drop ht)
              · exact hT2 t (List.mem_of_mem_take ht)
            generalize L2.drop tn ++ L2.take tn = L3 at h9b lD hD
            have F19 := F17.trans (e18.trans e19)
            refine a_whenR (K := K) (fun σ2 H2 => ∃ v9 L3 y16, σ2 = [some (.ref p), some (.int (at_ : Int)), some vz, some vh, some vl, some vg, some (.str (S ik)), some (.int (many : Int)), some (.str (S [oc])), some v9, y10, y11, some (.str (S sh)), some (.int low), some (.str (S b)), some (.int ((sp : Nat) : Int)), y16, none, none, none] ∧ Ex H19 H2 ∧ Is K H2 (.n (vsl L3)) v9 ∧ (1 ≤ L3.length ∧ L3.length ≤ 24) ∧ ∀ t ∈ L3, TX (many + 1) t) (et1 (er_op (num7 (j := 12) (e79.trans F19) rfl (by decide)) er_c ro_eqI)) ?u1 ?u2 ?u3
            case u3 =>
              intro hb H20 e20
              exact ⟨_, L3, _, rfl, e20, h9b.mono e20, ⟨by omega, by omega⟩, hD⟩
            case u2 =>
              intro hr2 hb H20 e20
              refine a_asg1 (K := K) (d := .n (vsl L3.reverse)) (Er.to (er_revL (Er.n2l (er_var rfl (h9b.mono e20)))) (by rw [vsl_rev])) fun v9 H21 e21 h9 => ?_
              exact hr2 _ _ ⟨v9, L3.reverse, _, rfl, e20.trans e21, h9, by rw [List.length_reverse]; omega, fun t ht => hD t (List.mem_reverse.mp ht)⟩
            case u1 =>
              rintro σ2 H20 ⟨v9, L4, y16, rfl, e20, h9, ⟨lo4, hi4⟩, hT4⟩
              have F20 := F19.trans e20
              refine a_asg (K := K) (d := .n (vsl (namesM (hd.drop 13) L4.length))) (er_call (hd.drop 13, L4.length) (era_cons (Er.n2l (Er.to (er_cutFrom (n := 13) (Er.n2l (er_var rfl (hd7.mono (e79.trans F20)))) er_c) (by rw [vis, ← List.map_drop]))) (era_cons (Er.to (er_cb (era_cons (er_var rfl h9) era_nil) rc_lenN) (by rw [vsl_len])) era_nil)) rfl ⟨by show 10 ≤ (hd.drop 13).length; rw [List.length_drop]; omega, by show L4.length ≤ 1000; omega⟩) fun vn H21 e21 hnm => ?_
              have h21 := h9.mono e21
              have EH21 : Ex H H21 := ((E7.trans e79).trans F20).trans e21
              have nmA : ∀ k, k < L4.length → (namesM (hd.drop 13) L4.length).getD k [] = nameM (hd.drop 13) L4.length k := fun k hk => by
                unfold namesM
                rw [List.getD_eq_getElem?_getD, List.getElem?_map, List.getElem?_range hk]
                rfl
              have nml : (namesM (hd.drop 13) L4.length).length = L4.length := by unfold namesM; simp
              have hpo : PairsOk (many + 1) ((List.range L4.length).map fun k => (nameM (hd.drop 13) L4.length k, L4.getD k [])) := by
                refine ⟨fun p hp => ?_, fun p hp => ?_, ?_, by rw [List.length_map, List.length_range]; omega⟩
                · obtain ⟨k, hk, rfl⟩ := List.mem_map.mp hp
                  exact name_ok
                · obtain ⟨k, hk, rfl⟩ := List.mem_map.mp hp
                  have ht := hT4 _ (getD_memL (z := []) (List.mem_range.mp hk))
                  exact ⟨stamp_of ht (by omega) (by omega), by rw [ht.l]; omega⟩
                · rw [List.map_map]
                  exact names_nodup (line := hd.drop 13) (many := L4.length) (by omega)
              refine a_rete (K := K) (d := chainD K) (Er.as (er_N (ds := [.i ((many + 1 : Nat) : Int), .s (S ik), .N (stN ((List.range L4.length).map fun k => (nameM (hd.drop 13) L4.length k, L4.getD k []))), .s (S b), .s (S sh)]) (era_cons (Er.to (er_op (er_v rfl) er_c ro_I0) rfl) (era_cons (er_v rfl) (era_cons (Ef.er (Ef.to (ef_lc (K := K) (G := H21) (its := List.range L4.length) (inj := fun k : Nat => Dd.i (k : Int)) (vs := [10]) (fun _ => true) (fun k => Dd.N [.s (S (nameM (hd.drop 13) L4.length k)), .s (S (L4.getD k []))]) (if_range (era_cons (Er.to (er_cb (era_cons (er_var rfl h21) era_nil) rc_lenN) (by rw [vsl_len])) era_nil) (by omega)) (by rw [List.length_range]; omega) (fun i k v G' A' g1 g2 hi hv => ?_)) ?_)) (era_cons (er_v rfl) (era_cons (er_v rfl) era_nil))))) (by simp)) fun Hx v z => ⟨many + 1, ik, _, b, sh, ⟨hpo, lb, lsh, by omega, by omega⟩, z⟩) rfl EH21 hk
              · obtain rfl : v = V.int (k : Int) := hv
                have hkk : k < L4.length := List.mem_range.mp (List.mem_of_getElem? hi)
                exact ⟨_, fun Q q => q, rfl, fun H2 e Q q => q H2 (Ex.refl _), fun _ => ef_N (efa_cons (ef_flat (Er.to (er_op (er_var rfl (hnm.mono g1)) (er_v rfl) (ro_ixSN (i := (k : Int)) (by omega) (by omega))) (by rw [Int.toNat_natCast, nmA k hkk]))) (efa_cons (ef_flat (Er.to (er_op (er_var rfl (h21.mono g1)) (er_v rfl) (ro_ixSN (i := (k : Int)) (by omega) (by omega))) (by rw [Int.toNat_natCast]))) efa_nil)) (by simp)⟩
              · rw [filt_true]
                unfold stN
                rw [List.map_map]
                rfl
end
end Mi

set_option maxHeartbeats 4000000
namespace Mi
open PySem PySem.Spec PyProof.Rows L2 Evl
local macro_rules | `(tactic| walk_at "side") => `(tactic| (first | assumption | omega | exact rfl | decide | (simp only [List.length_cons, List.length_nil, List.length_map, List.length_append, List.length_replicate] <;> omega)))
local macro_rules | `(tactic| walk_at "ro") => `(tactic| (first
  | with_reducible exact ro_I0
  | with_reducible exact ro_1018
  | with_reducible exact ro_neC
  | with_reducible exact ro_eqC
  | with_reducible exact ro_neI
  | with_reducible exact ro_eqI
  | with_reducible exact ro_neB
  | with_reducible exact ro_eqB
  | ((with_reducible apply ro_mod); (walk_at "side"))
  | ((with_reducible apply ro_div) <;> (walk_at "side"))
  | ((with_reducible apply ro_divW) <;> (walk_at "side"))
  | with_reducible exact ro_1012
  | with_reducible exact ro_1015
  | ((with_reducible apply ro_mulL) <;> (walk_at "side"))
  | ((with_reducible apply ro_mulR) <;> (walk_at "side"))
  | ((with_reducible apply ro_addC); (walk_at "side"))
  | ((with_reducible apply ro_ixC) <;> (walk_at "side"))
  | ((with_reducible apply ro_ixI) <;> (walk_at "side"))
  | ((with_reducible apply ro_ixIN) <;> (walk_at "side"))
  | ((with_reducible apply ro_ixT2) <;> (walk_at "side"))
  | ((with_reducible apply ro_ixG) <;> (walk_at "side"))
  | ((with_reducible apply ro_eq); exact rfl)
  | ((with_reducible apply ro_ne); exact rfl)
  | with_reducible exact ro_isN
  | with_reducible exact ro_notN
  | with_reducible exact ro_eqL
  | with_reducible exact ro_neL
  | with_reducible exact ro_eqU
  | ((with_reducible apply ro_cat); (walk_at "side"))
  | with_reducible exact ro_inLi
  | with_reducible exact ro_inNi
  | with_reducible exact ro_inUi
  | ((with_reducible apply ro_inL) <;> (walk_at "side"))
  | ((with_reducible apply ro_inN) <;> (walk_at "side"))
  | ((with_reducible apply ro_inU) <;> (walk_at "side"))))
local macro_rules | `(tactic| walk_at "rc") => `(tactic| (first
  | with_reducible exact rc_int
  | with_reducible exact rc_intB
  | with_reducible exact rc_max2
  | ((with_reducible apply rc_lenC); (walk_at "side"))
  | with_reducible exact rc_lenI
  | with_reducible exact rc_lenT
  | with_reducible exact rc_lenIN
  | with_reducible exact rc_lenTN
  | with_reducible exact rc_lenL
  | with_reducible exact rc_lenN
  | with_reducible exact rc_lenU
  | with_reducible exact rc_listL
  | with_reducible exact rc_listU
  | with_reducible exact rc_tupL
  | with_reducible exact rc_tupN
  | ((with_reducible apply rc_isi_int); decide +kernel)
  | ((with_reducible apply rc_isi_str); decide +kernel)
  | ((with_reducible apply rc_isi_bl); decide +kernel)
  | ((with_reducible apply rc_isi_non); decide +kernel)
  | ((with_reducible apply rc_isi_u); decide +kernel)
  | ((with_reducible apply rc_isi_l); decide +kernel)))
local macro_rules | `(tactic| walk_at "er") => `(tactic| (first
  | ((with_reducible apply er_var); (exact rfl); assumption)
  | ((with_reducible apply er_v); exact rfl)
  | with_reducible exact er_c
  | ((with_reducible apply er_pick); (walk_at "er"); (walk_at "er"); (walk_at "er"))
  | ((with_reducible apply er_op); (walk_at "er"); (walk_at "er"); (walk_at "ro"))
  | ((with_reducible apply er_cb); (walk_at "era"); (walk_at "rc"))
  | ((with_reducible apply er_lst'); (walk_at "era"); (exact rfl); (walk_at "side"))
  | ((with_reducible apply er_tup'); (walk_at "era"); (exact rfl); (walk_at "side"))
  | ((with_reducible apply er_notV); (walk_at "er"))
  | ((with_reducible apply er_andV); (walk_at "er"); (intro _; (walk_at "er")))
  | ((with_reducible apply er_orV); (walk_at "er"); (intro _; (walk_at "er")))
  | ((with_reducible apply er_ite); (walk_at "et"); (intro _; (walk_at "er")); (intro _; (walk_at "er")))))
local macro_rules | `(tactic| walk_at "era") => `(tactic| (first
  | with_reducible exact era_nil
  | ((with_reducible apply era_cons); (walk_at "er"); (walk_at "era"))))
local macro_rules | `(tactic| walk_at "et") => `(tactic| (first
  | ((with_reducible apply et_an); (walk_at "et"); (intro _; (walk_at "et")))
  | ((with_reducible apply et_orr); (walk_at "et"); (intro _; (walk_at "et")))
  | ((with_reducible apply et_nt); (walk_at "et"))
  | ((with_reducible apply et1); (walk_at "er"))
  | ((with_reducible apply et2); (walk_at "er"))))

section
variable {K : PySem.W.Frag} {σ : L2.St} {G H : Hp} {te tl tb ta : TE} {tr : TA} {ds : List Dd}
theorem er_makeC {C : Addr} {n : Nat} {sts : List (List Nat × List Nat)} (h : Era K tr σ H [.i (n : Int), .L (stD sts)]) (hp : PairsOk n sts) : Er K (tMake C (spInit K C) [] E0 tr) σ H (stockC K C (n : Int) sts) := fun H1 e Q q =>
  h H1 e _ fun vs H2 e2 z => by
    rcases z with _ | ⟨z1, _ | ⟨z2, _ | _⟩⟩
    rename_i v1 v2
    obtain rfl : v1 = V.int (n : Int) := z1
    intro x dx hx hdx ne
    refine ⟨x, n, sts, v2, rfl, hp, dx, H2, H2, Ex.refl _, ?_, hx, upd_same, z2, fun G' A' s hv => ⟨rfl, q _ A' (e2.trans s.a) (hv.mono s.v)⟩⟩
    exact (Ex.new hdx).trans (Ex.new (by rw [upd_ne (Ne.symm ne)]; exact hx))
theorem ro_nePr {sts : List (List Nat × List Nat)} (h : ∀ p ∈ sts, okT p.1 ∧ okT p.2) : Ro K (rNeD K) (.U (prD sts)) (.U (prD sts)) (.b false) := by
  rintro _ _ H1 ⟨p, vs, rfl, hp, hE⟩ ⟨p', vs', rfl, hp', hE'⟩ Q q
  obtain ⟨h1, h2⟩ := canLay_prs sts h
  have sh : SeqAt.shaped (.tuple (sts.map prP)) = true := by
    simp [SeqAt.shaped, PyData.canLay0, PyData.depth, h1]
    omega
  refine ⟨_, _, .tup hp (dpAll_prs hE), .tup hp' (dpAll_prs hE'), sh, sh, q _ H1 (Ex.refl H1) ?_⟩
  show V.bl (!PyData.eqvAll _ _) = _
  rw [eqv_prs_refl]
  rfl
theorem stN_L {sts : List (List Nat × List Nat)} {x : V} (h : Is K H (.N (stN sts)) x) : Is K H (.L (stD sts)) x := by
  obtain ⟨p, us, rfl, hp1, hE⟩ := h.N2L
  exact ⟨p, us, rfl, hp1, isE_map (fun _ _ _ z => z.N2L) hE⟩
end
def drawnD (K : PySem.W.Frag) : Dd := .P ⟨fun H y => ∃ (size : Nat) (sts : List (List Nat × List Nat)) (b sh : List Nat), DrawnOk size sts b sh ∧ Is K H (.N [.i (size : Int), .L (stD sts), .s (S b), .s (S sh)]) y, by
  rintro H H' y e ⟨size, sts, b, sh, h1, h2⟩
  exact ⟨size, sts, b, sh, h1, h2.mono e⟩⟩
section
variable {P : Program} {w : World} {K : PySem.W.Frag} {mg : Str → Option Value} {base : Heap}
abbrev s__law_drawn : Stmt := topS 71
theorem sc__law_drawn : FnScope ["script", "lot", "chain"] ["script"] (defScope s__law_drawn) := ⟨rfl, rfl, rfl, by decide +kernel, rfl, by decide +kernel, by decide +kernel⟩

abbrev sp__law_drawn (K : PySem.W.Frag) : Sp := spR K (fun ns : List Int => ns.length ≤ 63) (fun ns => [.l (vis ns)]) fun _ => drawnD K
theorem has__law_drawn (T : Txt K mg) (h : At K mg "_law_drawn" s__law_drawn ["script"]) (C__law_lot : Has P w K mg base 2 "_law_lot" ["script", "at", "upto", "widest"] (sp__law_lot K)) (C__law_cell : Has P w K mg base 1 "_law_cell" ["script", "k"] (sp__law_cell K)) (C__law_chain : Has P w K mg base 2 "_law_chain" ["script", "at"] (sp__law_chain K)) (C__law_scene : Has P w K mg base 2 "_law_scene" ["script", "at", "lot"] (sp__law_scene K)) : Has P w K mg base 3 "_law_drawn" ["script"] (sp__law_drawn K) := by
  refine h.hasR sc__law_drawn (fun _ => rfl) fun f cdv A outer s H ns vs Q E hr hp hv hk => ?_
  replace hp : ns.length ≤ 63 := hp
  rcases hv with _ | ⟨hs, _ | _⟩
  rename_i x
  replace hs : Is K H (.l (vis ns)) x := hs
  have sc := sc__law_drawn
  refine ⟨_, (pss_cons (ps_set (i := 1) sc.nd rfl (Or.inl rfl) (pe_callH C__law_lot (hr.mono (by decide)) (pa_cons (pv 0) (pa_cons pe_int (pa_cons pe_int (pa_cons pe_int pa_nil))))))
    (pss_cons (ps_if (pt_cmpR op_eq (pe_op op_mod (pe_callTy cr_int (by rfl) T.b_int (by decide +kernel) (pa_cons (pe_callH C__law_cell (hr.mono (by decide)) (pa_cons (pv 0) (pa_cons pe_int pa_nil))) pa_nil)) pe_int) pe_int (nomark _)) (pss_cons (ps_set (i := 2) sc.nd rfl (Or.inl rfl) (pe_callH C__law_chain (hr.mono (by decide)) (pa_cons (pv 0) (pa_cons pe_int pa_nil))))
    (pss_one (ps_ret (pe_lst (pa_cons (pe_ix (ix_list_k (K := K)) (pv 2) pe_int (fun _ _ => rfl)) (pa_cons (pe_ix (ix_list_k (K := K)) (pv 2) pe_int (fun _ _ => rfl)) (pa_cons (pe_ix (ix_list_k (K := K)) (pv 2) pe_int (fun _ _ => rfl)) (pa_cons (pe_ix (ix_list_k (K := K)) (pv 2) pe_int (fun _ _ => rfl)) pa_nil)))))))) pss_nil)
    (pss_one (ps_ret (pe_op op_cat (pe_lst (pa_cons (pe_ix (ix_list_k (K := K)) (pv 1) pe_int (fun _ _ => rfl)) (pa_cons (pe_ix (ix_list_k (K := K)) (pv 1) pe_int (fun _ _ => rfl)) pa_nil))) (pe_slice (sl_list_k (K := K)) (pe_callH C__law_scene (hr.mono (by decide)) (pa_cons (pv 0) (pa_cons pe_int (pa_cons (pv 1) pa_nil)))) po_none (po_some pe_int))))))), ?_⟩
  obtain ⟨_, s1, s30, _⟩ := lotSize_is (headM_ok ns 0) (widest := 30) (by decide)
  obtain ⟨_, m24, _⟩ := lotMany_is (headM_ok ns 0) (upto := 24)
  have hP := pairs_ok ns 0 (lotSize (headM ns 0) 30) (lotMany (headM ns 0) 24) s1 s30 m24
  have hSc := scene_ok ns 0 (lotSize (headM ns 0) 30) (lotMany (headM ns 0) 24) s1 s30 m24
  refine a_asg (K := K) (d := lotE (lotSize (headM ns 0) 30) (lotInks (headM ns 0)) (lotAll ns 0 (headM ns 0) (lotSize (headM ns 0) 30) (lotMany (headM ns 0) 24))) (er_call (ns, 0, 24, 30) (era_cons (er_var rfl hs) (era_cons er_c (era_cons er_c (era_cons er_c era_nil)))) rfl ⟨hp, show 0 ≤ 500 by decide, show 24 ≤ 1000 by decide, show 1 ≤ 30 by decide, show 30 ≤ 1000 by decide⟩) fun xl H1 e1 hl => ?_
  generalize lotSize (headM ns 0) 30 = size at *
  generalize lotAll ns 0 (headM ns 0) size (lotMany (headM ns 0) 24) = sts at *
  generalize lotInks (headM ns 0) = ik at *
  refine a_when (K := K) (b := decide (cellM ns 36 % 8 = 0)) (et1 (er_op (er_op (er_cb (era_cons (er_call (ns, 36) (era_cons (er_var rfl (hs.mono e1)) (era_cons er_c era_nil)) rfl ⟨hp, show 36 ≤ 1000 by decide⟩) era_nil) rc_int) er_c (ro_mod (by decide))) er_c ro_eqI)) (fun hb H2 e2 => ?_) fun hb H2 e2 => ?_
  · refine a_asg (K := K) (d := chainD K) (er_call (ns, 33) (era_cons (er_var rfl (hs.mono (e1.trans e2))) (era_cons er_c era_nil)) rfl ⟨hp, show 33 ≤ 500 by decide⟩) fun xc H3 e3 hc => ?_
    obtain ⟨sz, ik2, sts2, b, sh, hD, hc⟩ := hc
    refine a_rete (K := K) (d := drawnD K) (Er.as (er_N (ds := [.i (sz : Int), .L (stD sts2), .s (S b), .s (S sh)]) (era_cons (er_op (er_var rfl hc) er_c (ro_ixNd (i := 0) rfl)) (era_cons (Er.as (er_op (er_var rfl hc) er_c (ro_ixNd (i := 2) rfl)) fun Hx v z => stN_L z) (era_cons (er_op (er_var rfl hc) er_c (ro_ixNd (i := 3) rfl)) (era_cons (er_op (er_var rfl hc) er_c (ro_ixNd (i := 4) rfl)) era_nil)))) (by simp)) fun Hx v z => ⟨sz, sts2, b, sh, hD, z⟩) rfl (e1.trans (e2.trans e3)) hk
  · obtain ⟨b, sh, nums, lb, lsh, hsc⟩ := scene_lens (ns := ns) (at_ := 25) hSc
    have E2 := e1.trans e2
    have hl2 := hl.mono e2
    refine a_rete (K := K) (d := drawnD K) (Er.as (er_op (d1 := .N [.i (size : Int), .L (stD sts)]) (d2 := .N [.s (S b), .s (S sh)]) (er_N (era_cons (er_place (i := 0) (er_var rfl hl2) er_c rfl) (era_cons (er_place (i := 2) (er_var rfl hl2) er_c rfl) era_nil)) (by simp)) (er_slLTo (n := 2) (ds := [.s (S b), .s (S sh), .l (vis nums)]) (Er.to (er_call (ns, 25, size, ik, sts) (era_cons (er_var rfl (hs.mono E2)) (era_cons er_c (era_cons (er_var rfl hl2) era_nil))) rfl ⟨hp, show 25 ≤ 500 by decide, hSc⟩) hsc) er_c) (ro_catd (by simp))) fun Hx v z => ⟨size, sts, b, sh, ⟨hP, lb, lsh, s1, s30⟩, z⟩) rfl E2 hk
abbrev s_law : Stmt := topS 72
theorem sc_law : FnScope ["script", "drawn", "stamps", "base", "shown", "built", "kept", "pair"] ["script"] (defScope s_law) := ⟨rfl, rfl, rfl, by decide +kernel, rfl, by decide +kernel, by decide +kernel⟩

abbrev spLaw (K : PySem.W.Frag) : Sp := spR K (fun ns : List Int => ns.length ≤ 63) (fun ns => [.l (vis ns)]) fun _ => .b true
theorem scene_of {size : Nat} {sts : List (List Nat × List Nat)} {b sh : List Nat} (h : PairsOk size sts) (h30 : size ≤ 30) (h1 : b.length = size) (h2 : sh.length = size) : SceneP sh.length sts b sh := by
  rw [h2]
  exact ⟨⟨⟨h.few, fun p hp => stamp_len (h.st p hp).1, by omega⟩, h.di⟩, h1, h2, fun p hp => nameOk_okT (h.nm p hp).1⟩
theorem fn_law {f0 C CM fI : Addr} {fd0 fdI : FuncData} (T : Txt K mg) (TS : StTxt K mg C) (F : Fun K "law" "law" s_law f0 fd0) (M_init : Mk K C fI) (F_init : FnOk P w K mg base CX0 4 fI fdI ["self", "size", "stamps"] (spInit K C)) (b_init : Binds K fdI ["self", "size", "stamps"] [])
    (C__law_drawn : Has P w K mg base 3 "_law_drawn" ["script"] (sp__law_drawn K)) (C_making : Has P w K mg base 4 "making" ["stock", "start", "seen"] (sp_making K C CM)) (C__law_told : Has P w K mg base 6 "_law_told" ["script", "built", "stamps", "base", "shown"] (sp__law_told K C)) (C__law_shows : Has P w K mg base 5 "_law_shows" ["stamps", "base", "shown", "actual"] (sp__law_shows K CM)) : FnOk P w K mg base CX0 8 f0 fd0 ["script"] (spLaw K) := by
  refine fnR F sc_law (fun _ => rfl) fun f cdv A outer s H ns vs Q E hr hp hv hk => ?_
  replace hp : ns.length ≤ 63 := hp
  rcases hv with _ | ⟨hs, _ | _⟩
  rename_i x
  replace hs : Is K H (.l (vis ns)) x := hs
  have sc := sc_law
  refine ⟨_, (pss_cons (ps_set (i := 1) sc.nd rfl (Or.inl rfl) (pe_callH C__law_drawn (hr.mono (by decide)) (pa_cons (pv 0) pa_nil)))
    (pss_cons (ps_set (i := 2) sc.nd rfl (Or.inl rfl) (pe_ix (ix_list_k (K := K)) (pv 1) pe_int (fun _ _ => rfl)))
    (pss_cons (ps_set (i := 3) sc.nd rfl (Or.inl rfl) (pe_ix (ix_list_k (K := K)) (pv 1) pe_int (fun _ _ => rfl)))
    (pss_cons (ps_set (i := 4) sc.nd rfl (Or.inl rfl) (pe_ix (ix_list_k (K := K)) (pv 1) pe_int (fun _ _ => rfl)))
    (pss_cons (ps_set (i := 5) sc.nd rfl (Or.inl rfl) (pe_make M_init F_init (hr.mono (by decide)) (by rfl) TS.mgC b_init .nil pass0 (pa_cons (pe_ix (ix_list_k (K := K)) (pv 1) pe_int (fun _ _ => rfl)) (pa_cons (pe_lc (own := [("pair", 7)]) (g := gName 7) (by rfl) sc.nd (pi_list_k (K := K) (pv 2)) (blkOk_by (N := ["script", "drawn", "stamps", "base", "shown", "built", "kept", "pair"]) (sc := defScope s_law) (own := [("pair", 7)]) (by decide +kernel)) (fun _ _ _ _ _ => (pg_name (i := 7) sc.nd rfl (Or.inl rfl))) (fun _ _ _ _ _ => pts_nil) (fun _ _ _ _ _ => (pe_callTy (cr_list_k (K := K)) (by rfl) T.b_list (by decide +kernel) (pa_cons (pv 7) pa_nil)))) pa_nil))))
    (pss_cons (ps_set (i := 6) sc.nd rfl (Or.inl rfl) (pe_lst (pa_cons (pe_callH C_making (hr.mono (by decide)) (pa_cons (pv 5) (pa_cons (pv 3) (pa_cons (pv 4) pa_nil)))) (pa_cons (pe_callH C_making (hr.mono (by decide)) (pa_cons (pv 5) (pa_cons (pv 4) (pa_cons (pv 3) pa_nil)))) (pa_cons (pe_callH C_making (hr.mono (by decide)) (pa_cons (pv 5) (pa_cons (pv 4) (pa_cons (pv 4) pa_nil)))) pa_nil)))))
    (pss_cons (ps_if (PW.pt (pw_or (pt_not (pt_val (pe_callH C__law_told (hr.mono (by decide)) (pa_cons (pv 0) (pa_cons (pv 5) (pa_cons (pv 2) (pa_cons (pv 3) (pa_cons (pv 4) pa_nil)))))))) (pw_or1 (pt_not (pt_val (pe_callH C__law_told (hr.mono (by decide)) (pa_cons (pv 0) (pa_cons (pv 5) (pa_cons (pv 2) (pa_cons (pv 4) (pa_cons (pv 3) pa_nil))))))))))) (pss_one (ps_ret pe_bl)) pss_nil)
    (pss_cons (ps_if (pt_not (pt_val (pe_callH C__law_told (hr.mono (by decide)) (pa_cons (pv 0) (pa_cons (pv 5) (pa_cons (pv 2) (pa_cons (pv 4) (pa_cons (pv 4) pa_nil)))))))) (pss_one (ps_ret pe_bl)) pss_nil)
    (pss_cons (ps_if (PW.pt (pw_or (pt_not (pt_val (pe_callH C__law_shows (hr.mono (by decide)) (pa_cons (pv 2) (pa_cons (pv 3) (pa_cons (pv 4) (pa_cons (pe_ix (ix_list_k (K := K)) (pv 6) pe_int (fun _ _ => rfl)) pa_nil))))))) (pw_or1 (pt_not (pt_val (pe_callH C__law_shows (hr.mono (by decide)) (pa_cons (pv 2) (pa_cons (pv 4) (pa_cons (pv 3) (pa_cons (pe_ix (ix_list_k (K := K)) (pv 6) pe_int (fun _ _ => rfl)) pa_nil)))))))))) (pss_one (ps_ret pe_bl)) pss_nil)
    (pss_cons (ps_if (pt_not (pt_val (pe_callH C__law_shows (hr.mono (by decide)) (pa_cons (pv 2) (pa_cons (pv 4) (pa_cons (pv 4) (pa_cons (pe_ix (ix_list_k (K := K)) (pv 6) pe_int (fun _ _ => rfl)) pa_nil))))))) (pss_one (ps_ret pe_bl)) pss_nil)
    (pss_cons (ps_if (pt_cmpR (op_neD_k (K := K) hr.units) (pe_fld (pv 5) rfl) (pe_callTy (cr_tuple_k (K := K)) (by rfl) T.b_tuple (by decide +kernel) (pa_cons (pe_lc (own := [("pair", 7)]) (g := gName 7) (by rfl) sc.nd (pi_list_k (K := K) (pv 2)) (blkOk_by (N := ["script", "drawn", "stamps", "base", "shown", "built", "kept", "pair"]) (sc := defScope s_law) (own := [("pair", 7)]) (by decide +kernel)) (fun _ _ _ _ _ => (pg_name (i := 7) sc.nd rfl (Or.inl rfl))) (fun _ _ _ _ _ => pts_nil) (fun _ _ _ _ _ => (pe_callTy (cr_tuple_k (K := K)) (by rfl) T.b_tuple (by decide +kernel) (pa_cons (pv 7) pa_nil)))) pa_nil)) (nomark _)) (pss_one (ps_ret pe_bl)) pss_nil)
    (pss_one (ps_ret (pe_callH C__law_shows (hr.mono (by decide)) (pa_cons (pv 2) (pa_cons (pv 3) (pa_cons (pv 4) (pa_cons (pe_callH C_making (hr.mono (by decide)) (pa_cons (pv 5) (pa_cons (pv 3) (pa_cons (pv 4) pa_nil)))) pa_nil)))))))))))))))))), ?_⟩
  refine a_asg (K := K) (d := drawnD K) (er_call ns (era_cons (er_var rfl hs) era_nil) rfl hp) fun xd H1 e1 hd => ?_
  obtain ⟨size, sts, b, sh, hD, hd⟩ := hd
  have hP := hD.po
  have few := hP.few
  have lb := hD.bl
  have s1 := hD.s1
  have s30 := hD.s30
  have lsh := hD.sl
  obtain rfl : size = sh.length := lsh.symm
  refine a_asg (K := K) (d := .L (stD sts)) (er_op (er_var rfl hd) er_c (ro_ixNd (i := 1) rfl)) fun xs H2 e2 hst => ?_
  refine a_setv (K := K) (x := .str (S b)) (er_op (er_var rfl (hd.mono e2)) er_c (ro_ixNd (i := 2) rfl)) fun H3 e3 => ?_
  refine a_setv (K := K) (x := .str (S sh)) (er_op (er_var rfl (hd.mono (e2.trans e3))) er_c (ro_ixNd (i := 3) rfl)) fun H4 e4 => ?_
  have hst4 := hst.mono (e3.trans e4)
  have hd4 := hd.mono (e2.trans (e3.trans e4))
  have E4 : Ex H H4 := e1.trans (e2.trans (e3.trans e4))
  refine a_asg (K := K) (er_makeC (n := sh.length) (sts := sts) (era_cons (er_op (er_var rfl hd4) er_c (ro_ixNd (i := 0) rfl)) (era_cons (Er.as (d := .N (sts.map fun p => Dd.N [.s (S p.1), .s (S p.2)])) (Ef.er (Ef.to (ef_lc (its := sts) (inj := fun p => Dd.L [.s (S p.1), .s (S p.2)]) (vs := [7]) (fun _ => true) (fun p => Dd.N [.s (S p.1), .s (S p.2)]) (if_list (ef_var rfl hst4)) (by omega) (fun i p v G' A' ea eb hi hv => ?_)) ?_)) (fun Hx v z => ?_)) era_nil)) hP) fun xb H5 e5 hb => ?_
  · exact ⟨_, fun Q q => q, rfl, fun H6 e6 Q q => q H6 (Ex.refl _), fun _ => ef_cb (efa_cons (ef_var rfl hv) efa_nil) rf_listL⟩
  · rw [filt_true]
  · exact stN_L z
  have E5 := E4.trans e5
  have hst5 := hst4.mono e5
  have P1 : SceneP sh.length sts b sh := scene_of hP s30 lb rfl
  have P2 : SceneP b.length sts sh b := scene_of hP s30 rfl lb
  have P3 : SceneP sh.length sts sh sh := scene_of hP s30 rfl rfl
  have hb2 : Is K H5 (stockC K C (b.length : Int) sts) xb := by rw [lb]; exact hb
  have mk1 : ∀ {σ : L2.St} {H' : Hp}, Ex H5 H' → σ[5]? = some (some xb) → σ[3]? = some (some (.str (S b))) → σ[4]? = some (some (.str (S sh))) → Er K (tCall (sp_making K C CM) [] E0 (tCons (tVar 5) (tCons (tVar 3) (tCons (tVar 4) tNil)))) σ H' (madD K CM sts b sh) := fun {σ H'} e q1 q2 q3 => er_call ((sh.length, sts), b, sh) (era_cons (er_var q1 (hb.mono e)) (era_cons (er_v q2) (era_cons (er_v q3) era_nil))) rfl P1
  have mk2 : ∀ {σ : L2.St} {H' : Hp}, Ex H5 H' → σ[5]? = some (some xb) → σ[3]? = some (some (.str (S b))) → σ[4]? = some (some (.str (S sh))) → Er K (tCall (sp_making K C CM) [] E0 (tCons (tVar 5) (tCons (tVar 4) (tCons (tVar 3) tNil)))) σ H' (madD K CM sts sh b) := fun {σ H'} e q1 q2 q3 => er_call ((sh.length, sts), sh, b) (era_cons (er_var q1 (hb.mono e)) (era_cons (er_v q3) (era_cons (er_v q2) era_nil))) rfl P2
  have mk3 : ∀ {σ : L2.St} {H' : Hp}, Ex H5 H' → σ[5]? = some (some xb) → σ[3]? = some (some (.str (S b))) → σ[4]? = some (some (.str (S sh))) → Er K (tCall (sp_making K C CM) [] E0 (tCons (tVar 5) (tCons (tVar 4) (tCons (tVar 4) tNil)))) σ H' (madD K CM sts sh sh) := fun {σ H'} e q1 q2 q3 => er_call ((sh.length, sts), sh, sh) (era_cons (er_var q1 (hb.mono e)) (era_cons (er_v q3) (era_cons (er_v q3) era_nil))) rfl P3
  refine a_asg (K := K) (d := .N [madD K CM sts b sh, madD K CM sts sh b, madD K CM sts sh sh]) (er_N (era_cons (mk1 (Ex.refl _) rfl rfl rfl) (era_cons (mk2 (Ex.refl _) rfl rfl rfl) (era_cons (mk3 (Ex.refl _) rfl rfl rfl) era_nil))) (by simp)) fun xk H6 e6 hkp => ?_
  have E6 := E5.trans e6
  have tl1 : ∀ {σ : L2.St} {H' : Hp}, Ex H5 H' → σ[0]? = some (some x) → σ[5]? = some (some xb) → σ[2]? = some (some xs) → σ[3]? = some (some (.str (S b))) → σ[4]? = some (some (.str (S sh))) → Er K (tCall (sp__law_told K C) [] E0 (tCons (tVar 0) (tCons (tVar 5) (tCons (tVar 2) (tCons (tVar 3) (tCons (tVar 4) tNil)))))) σ H' (.b true) := fun {σ H'} e q0 q1 q2 q3 q4 => er_call (ns, sts, b, sh) (era_cons (er_var q0 (hs.mono (E5.trans e))) (era_cons (er_var q1 (hb.mono e)) (era_cons (er_var q2 (hst5.mono e)) (era_cons (er_v q3) (era_cons (er_v q4) era_nil))))) rfl ⟨hp, P1, s1, by show sh.length ≤ 100; omega⟩
  have tl2 : ∀ {σ : L2.St} {H' : Hp}, Ex H5 H' → σ[0]? = some (some x) → σ[5]? = some (some xb) → σ[2]? = some (some xs) → σ[3]? = some (some (.str (S b))) → σ[4]? = some (some (.str (S sh))) → Er K (tCall (sp__law_told K C) [] E0 (tCons (tVar 0) (tCons (tVar 5) (tCons (tVar 2) (tCons (tVar 4) (tCons (tVar 3) tNil)))))) σ H' (.b true) := fun {σ H'} e q0 q1 q2 q3 q4 => er_call (ns, sts, sh, b) (era_cons (er_var q0 (hs.mono (E5.trans e))) (era_cons (er_var q1 (hb2.mono e)) (era_cons (er_var q2 (hst5.mono e)) (era_cons (er_v q4) (era_cons (er_v q3) era_nil))))) rfl ⟨hp, P2, by show 1 ≤ b.length; omega, by show b.length ≤ 100; omega⟩
  have tl3 : ∀ {σ : L2.St} {H' : Hp}, Ex H5 H' → σ[0]? = some (some x) → σ[5]? = some (some xb) → σ[2]? = some (some xs) → σ[3]? = some (some (.str (S b))) → σ[4]? = some (some (.str (S sh))) → Er K (tCall (sp__law_told K C) [] E0 (tCons (tVar 0) (tCons (tVar 5) (tCons (tVar 2) (tCons (tVar 4) (tCons (tVar 4) tNil)))))) σ H' (.b true) := fun {σ H'} e q0 q1 q2 q3 q4 => er_call (ns, sts, sh, sh) (era_cons (er_var q0 (hs.mono (E5.trans e))) (era_cons (er_var q1 (hb.mono e)) (era_cons (er_var q2 (hst5.mono e)) (era_cons (er_v q4) (era_cons (er_v q4) era_nil))))) rfl ⟨hp, P3, s1, by show sh.length ≤ 100; omega⟩
  refine a_when (K := K) (b := !true || !true) (et_orr (et_nt (et2 (tl1 e6 rfl rfl rfl rfl rfl))) fun _ => et_nt (et2 (tl2 e6 rfl rfl rfl rfl rfl))) (fun z => absurd z (by decide)) fun _ H7 e7 => ?_
  refine a_when (K := K) (b := !true) (et_nt (et2 (tl3 (e6.trans e7) rfl rfl rfl rfl rfl))) (fun z => absurd z (by decide)) fun _ H8 e8 => ?_
  have F8 := e6.trans (e7.trans e8)
  have hk8 := hkp.mono (e7.trans e8)
  have kp : ∀ {σ : L2.St} {H' : Hp} {j : Nat} {d : Dd}, Ex H8 H' → σ[6]? = some (some xk) → [madD K CM sts b sh, madD K CM sts sh b, madD K CM sts sh sh][j]? = some d → Er K (tOp (rIxL K) (tVar 6) (tC (.int (j : Int)))) σ H' d := fun {σ H' j d} e q hj => er_op (er_var q (hk8.mono e)) er_c (ro_ixNd (i := j) hj)
  refine a_when (K := K) (b := !true || !true) (et_orr (et_nt (et2 (er_call (sts, b, sh) (era_cons (er_var rfl (hst5.mono F8)) (era_cons (er_v rfl) (era_cons (er_v rfl) (era_cons (kp (j := 0) (Ex.refl _) rfl rfl) era_nil)))) rfl P1))) fun _ => et_nt (et2 (er_call (sts, sh, b) (era_cons (er_var rfl (hst5.mono F8)) (era_cons (er_v rfl) (era_cons (er_v rfl) (era_cons (kp (j := 1) (Ex.refl _) rfl rfl) era_nil)))) rfl P2))) (fun z => absurd z (by decide)) fun _ H9 e9 => ?_
  have F9 := F8.trans e9
  refine a_when (K := K) (b := !true) (et_nt (et2 (er_call (sts, sh, sh) (era_cons (er_var rfl (hst5.mono F9)) (era_cons (er_v rfl) (era_cons (er_v rfl) (era_cons (kp (j := 2) e9 rfl rfl) era_nil)))) rfl P3))) (fun z => absurd z (by decide)) fun _ H10 e10 => ?_
  have F10 := F9.trans e10
  refine a_when (K := K) (b := false) (et1 (er_op (Ef.er (ef_stamps TS.cl TS.nT (Ef.as (ef_var rfl (hb.mono F10)) fun Hx v z => stockC_D z))) (Ef.er (ef_cb (ds := [.N (prD sts)]) (efa_cons (Ef.to (ef_lc (its := sts) (inj := fun p => Dd.L [.s (S p.1), .s (S p.2)]) (vs := [7]) (fun _ => true) (fun p => Dd.U [.s (S p.1), .s (S p.2)]) (if_list (ef_var rfl (hst5.mono F10))) (by omega) (fun i p v G' A' ea eb hi hv => ?_)) ?_) efa_nil) rf_tupN)) (ro_nePr fun p hp => ⟨nameOk_okT (hP.nm p hp).1, layer_okT (hP.st p hp).1⟩))) (fun z => absurd z (by decide)) fun _ H11 e11 => ?_
  · exact ⟨_, fun Q q => q, rfl, fun H6 e6 Q q => q H6 (Ex.refl _), fun _ => ef_cb (efa_cons (ef_var rfl hv) efa_nil) rf_tupL⟩
  · rw [filt_true]
  have F11 := F10.trans e11
  exact a_rete (K := K) (er_call (sts, b, sh) (era_cons (er_var rfl (hst5.mono F11)) (era_cons (er_v rfl) (era_cons (er_v rfl) (era_cons (mk1 F11 rfl rfl rfl) era_nil)))) rfl P1) rfl (E5.trans F11) hk
end
end Mi

set_option maxHeartbeats 4000000
namespace Mi
open PySem PySem.Spec PyProof.Rows L2 Evl
theorem at_mk {K : PySem.W.Frag} {h : Heap} {mg : Str → Option Value} {x : Str} {st : Stmt} {ps : List Str} {f : Addr} {od an : Option Addr} {sl : Array (Option Value)} {oc kV dc pm cd ct : Value} (X : K.In h) (G : h.Ns mainGlobals mg)
    (a : PySem.W.nsIn K mainGlobals x = some (some (.ref f))) (l : K.lookup f = some ⟨oc, od, .func (PySem.W.fnOf x x (defArgs st) (defBody st) (defScope st) .none kV dc pm an cd ct), sl⟩) (c : PySem.W.codeIn K cd x = true) (k : PySem.W.keepIn K (.ref f) = true)
    (b0 : ∀ (kV dc pm : Value) (an : Option Addr) (cd ct : Value) (us : List Value), us.length = ps.length → bindArgs (PySem.W.fnOf x x (defArgs st) (defBody st) (defScope st) .none kV dc pm an cd ct) ⟨us, []⟩ = pure (ps.zip us))
    (b1 : ∀ (kV dc pm : Value) (an : Option Addr) (cd ct : Value), ps.length = 1 → ∀ w1 : Value, bindArgs (PySem.W.fnOf x x (defArgs st) (defBody st) (defScope st) .none kV dc pm an cd ct) ⟨[], ps.zip [w1]⟩ = pure (ps.zip [w1]))
    (b2 : ∀ (kV dc pm : Value) (an : Option Addr) (cd ct : Value), ∀ p q, ps = [p, q] → ∀ w1 w2 : Value, bindArgs (PySem.W.fnOf x x (defArgs st) (defBody st) (defScope st) .none kV dc pm an cd ct) ⟨[], [q, p].zip [w1, w2]⟩ = pure ([p, q].zip [w2, w1])) : At K mg x st ps := by
  have F := fun_mk (st := st) l c k
  exact ⟨_, _, PySem.W.mg_of X G a, F, Binds.all (b0 _ _ _ _ _ _), fun e _ w1 => .of_eq (b1 _ _ _ _ _ _ e w1), fun p q e _ w1 w2 => .of_eq (b2 _ _ _ _ _ _ p q e w1 w2)⟩
theorem at_is_layer {K : PySem.W.Frag} {h : Heap} {mg : Str → Option Value} {f : Addr} {od an : Option Addr} {sl : Array (Option Value)} {oc kV dc pm cd ct : Value} (X : K.In h) (G : h.Ns mainGlobals mg) (a : PySem.W.nsIn K mainGlobals "is_layer" = some (some (.ref f))) (l : K.lookup f = some ⟨oc, od, .func (PySem.W.fnOf "is_layer" "is_layer" (defArgs s_is_layer) (defBody s_is_layer) (defScope s_is_layer) .none kV dc pm an cd ct), sl⟩) (c : PySem.W.codeIn K cd "is_layer" = true) (k : PySem.W.keepIn K (.ref f) = true) : At K mg "is_layer" s_is_layer ["value"] :=
  at_mk X G a l c k (fun _ _ _ _ _ _ us hl => match us, hl with | [_], _ => rfl) (fun _ _ _ _ _ _ _ _ => rfl) (fun _ _ _ _ _ _ p q e => by cases e)
theorem at_cells_of {K : PySem.W.Frag} {h : Heap} {mg : Str → Option Value} {f : Addr} {od an : Option Addr} {sl : Array (Option Value)} {oc kV dc pm cd ct : Value} (X : K.In h) (G : h.Ns mainGlobals mg) (a : PySem.W.nsIn K mainGlobals "cells_of" = some (some (.ref f))) (l : K.lookup f = some ⟨oc, od, .func (PySem.W.fnOf "cells_of" "cells_of" (defArgs s_cells_of) (defBody s_cells_of) (defScope s_cells_of) .none kV dc pm an cd ct), sl⟩) (c : PySem.W.codeIn K cd "cells_of" = true) (k : PySem.W.keepIn K (.ref f) = true) : At K mg "cells_of" s_cells_of ["one"] :=
  at_mk X G a l c k (fun _ _ _ _ _ _ us hl => match us, hl with | [_], _ => rfl) (fun _ _ _ _ _ _ _ _ => rfl) (fun _ _ _ _ _ _ p q e => by cases e)
theorem at_agree {K : PySem.W.Frag} {h : Heap} {mg : Str → Option Value} {f : Addr} {od an : Option Addr} {sl : Array (Option Value)} {oc kV dc pm cd ct : Value} (X : K.In h) (G : h.Ns mainGlobals mg) (a : PySem.W.nsIn K mainGlobals "agree" = some (some (.ref f))) (l : K.lookup f = some ⟨oc, od, .func (PySem.W.fnOf "agree" "agree" (defArgs s_agree) (defBody s_agree) (defScope s_agree) .none kV dc pm an cd ct), sl⟩) (c : PySem.W.codeIn K cd "agree" = true) (k : PySem.W.keepIn K (.ref f) = true) : At K mg "agree" s_agree ["one", "two"] :=
  at_mk X G a l c k (fun _ _ _ _ _ _ us hl => match us, hl with | [_, _], _ => rfl) (fun _ _ _ _ _ _ e => absurd e (by decide)) (fun _ _ _ _ _ _ p q e w1 w2 => by cases e; rfl)
theorem at_peeled {K : PySem.W.Frag} {h : Heap} {mg : Str → Option Value} {f : Addr} {od an : Option Addr} {sl : Array (Option Value)} {oc kV dc pm cd ct : Value} (X : K.In h) (G : h.Ns mainGlobals mg) (a : PySem.W.nsIn K mainGlobals "peeled" = some (some (.ref f))) (l : K.lookup f = some ⟨oc, od, .func (PySem.W.fnOf "peeled" "peeled" (defArgs s_peeled) (defBody s_peeled) (defScope s_peeled) .none kV dc pm an cd ct), sl⟩) (c : PySem.W.codeIn K cd "peeled" = true) (k : PySem.W.keepIn K (.ref f) = true) : At K mg "peeled" s_peeled ["left", "stamp"] :=
  at_mk X G a l c k (fun _ _ _ _ _ _ us hl => match us, hl with | [_, _], _ => rfl) (fun _ _ _ _ _ _ e => absurd e (by decide)) (fun _ _ _ _ _ _ p q e w1 w2 => by cases e; rfl)
theorem at_first_to_peel {K : PySem.W.Frag} {h : Heap} {mg : Str → Option Value} {f : Addr} {od an : Option Addr} {sl : Array (Option Value)} {oc kV dc pm cd ct : Value} (X : K.In h) (G : h.Ns mainGlobals mg) (a : PySem.W.nsIn K mainGlobals "first_to_peel" = some (some (.ref f))) (l : K.lookup f = some ⟨oc, od, .func (PySem.W.fnOf "first_to_peel" "first_to_peel" (defArgs s_first_to_peel) (defBody s_first_to_peel) (defScope s_first_to_peel) .none kV dc pm an cd ct), sl⟩) (c : PySem.W.codeIn K cd "first_to_peel" = true) (k : PySem.W.keepIn K (.ref f) = true) : At K mg "first_to_peel" s_first_to_peel ["stock", "left"] :=
  at_mk X G a l c k (fun _ _ _ _ _ _ us hl => match us, hl with | [_, _], _ => rfl) (fun _ _ _ _ _ _ e => absurd e (by decide)) (fun _ _ _ _ _ _ p q e w1 w2 => by cases e; rfl)
theorem at_peeling {K : PySem.W.Frag} {h : Heap} {mg : Str → Option Value} {f : Addr} {od an : Option Addr} {sl : Array (Option Value)} {oc kV dc pm cd ct : Value} (X : K.In h) (G : h.Ns mainGlobals mg) (a : PySem.W.nsIn K mainGlobals "peeling" = some (some (.ref f))) (l : K.lookup f = some ⟨oc, od, .func (PySem.W.fnOf "peeling" "peeling" (defArgs s_peeling) (defBody s_peeling) (defScope s_peeling) .none kV dc pm an cd ct), sl⟩) (c : PySem.W.codeIn K cd "peeling" = true) (k : PySem.W.keepIn K (.ref f) = true) : At K mg "peeling" s_peeling ["stock", "seen"] :=
  at_mk X G a l c k (fun _ _ _ _ _ _ us hl => match us, hl with | [_, _], _ => rfl) (fun _ _ _ _ _ _ e => absurd e (by decide)) (fun _ _ _ _ _ _ p q e w1 w2 => by cases e; rfl)
theorem at_differs_at {K : PySem.W.Frag} {h : Heap} {mg : Str → Option Value} {f : Addr} {od an : Option Addr} {sl : Array (Option Value)} {oc kV dc pm cd ct : Value} (X : K.In h) (G : h.Ns mainGlobals mg) (a : PySem.W.nsIn K mainGlobals "differs_at" = some (some (.ref f))) (l : K.lookup f = some ⟨oc, od, .func (PySem.W.fnOf "differs_at" "differs_at" (defArgs s_differs_at) (defBody s_differs_at) (defScope s_differs_at) .none kV dc pm an cd ct), sl⟩) (c : PySem.W.codeIn K cd "differs_at" = true) (k : PySem.W.keepIn K (.ref f) = true) : At K mg "differs_at" s_differs_at ["stamp", "seen", "cells"] :=
  at_mk X G a l c k (fun _ _ _ _ _ _ us hl => match us, hl with | [_, _, _], _ => rfl) (fun _ _ _ _ _ _ e => absurd e (by decide)) (fun _ _ _ _ _ _ p q e => by cases e)
theorem at_covers_any {K : PySem.W.Frag} {h : Heap} {mg : Str → Option Value} {f : Addr} {od an : Option Addr} {sl : Array (Option Value)} {oc kV dc pm cd ct : Value} (X : K.In h) (G : h.Ns mainGlobals mg) (a : PySem.W.nsIn K mainGlobals "covers_any" = some (some (.ref f))) (l : K.lookup f = some ⟨oc, od, .func (PySem.W.fnOf "covers_any" "covers_any" (defArgs s_covers_any) (defBody s_covers_any) (defScope s_covers_any) .none kV dc pm an cd ct), sl⟩) (c : PySem.W.codeIn K cd "covers_any" = true) (k : PySem.W.keepIn K (.ref f) = true) : At K mg "covers_any" s_covers_any ["stamp", "cells"] :=
  at_mk X G a l c k (fun _ _ _ _ _ _ us hl => match us, hl with | [_, _], _ => rfl) (fun _ _ _ _ _ _ e => absurd e (by decide)) (fun _ _ _ _ _ _ p q e w1 w2 => by cases e; rfl)
theorem at_is_fast {K : PySem.W.Frag} {h : Heap} {mg : Str → Option Value} {f : Addr} {od an : Option Addr} {sl : Array (Option Value)} {oc kV dc pm cd ct : Value} (X : K.In h) (G : h.Ns mainGlobals mg) (a : PySem.W.nsIn K mainGlobals "is_fast" = some (some (.ref f))) (l : K.lookup f = some ⟨oc, od, .func (PySem.W.fnOf "is_fast" "is_fast" (defArgs s_is_fast) (defBody s_is_fast) (defScope s_is_fast) .none kV dc pm an cd ct), sl⟩) (c : PySem.W.codeIn K cd "is_fast" = true) (k : PySem.W.keepIn K (.ref f) = true) : At K mg "is_fast" s_is_fast ["stock", "seen", "chosen"] :=
  at_mk X G a l c k (fun _ _ _ _ _ _ us hl => match us, hl with | [_, _, _], _ => rfl) (fun _ _ _ _ _ _ e => absurd e (by decide)) (fun _ _ _ _ _ _ p q e => by cases e)
theorem at_as_tuples {K : PySem.W.Frag} {h : Heap} {mg : Str → Option Value} {f : Addr} {od an : Option Addr} {sl : Array (Option Value)} {oc kV dc pm cd ct : Value} (X : K.In h) (G : h.Ns mainGlobals mg) (a : PySem.W.nsIn K mainGlobals "as_tuples" = some (some (.ref f))) (l : K.lookup f = some ⟨oc, od, .func (PySem.W.fnOf "as_tuples" "as_tuples" (defArgs s_as_tuples) (defBody s_as_tuples) (defScope s_as_tuples) .none kV dc pm an cd ct), sl⟩) (c : PySem.W.codeIn K cd "as_tuples" = true) (k : PySem.W.keepIn K (.ref f) = true) : At K mg "as_tuples" s_as_tuples ["value"] :=
  at_mk X G a l c k (fun _ _ _ _ _ _ us hl => match us, hl with | [_], _ => rfl) (fun _ _ _ _ _ _ _ _ => rfl) (fun _ _ _ _ _ _ p q e => by cases e)
theorem at_is_name {K : PySem.W.Frag} {h : Heap} {mg : Str → Option Value} {f : Addr} {od an : Option Addr} {sl : Array (Option Value)} {oc kV dc pm cd ct : Value} (X : K.In h) (G : h.Ns mainGlobals mg) (a : PySem.W.nsIn K mainGlobals "is_name" = some (some (.ref f))) (l : K.lookup f = some ⟨oc, od, .func (PySem.W.fnOf "is_name" "is_name" (defArgs s_is_name) (defBody s_is_name) (defScope s_is_name) .none kV dc pm an cd ct), sl⟩) (c : PySem.W.codeIn K cd "is_name" = true) (k : PySem.W.keepIn K (.ref f) = true) : At K mg "is_name" s_is_name ["value"] :=
  at_mk X G a l c k (fun _ _ _ _ _ _ us hl => match us, hl with | [_], _ => rfl) (fun _ _ _ _ _ _ _ _ => rfl) (fun _ _ _ _ _ _ p q e => by cases e)
theorem at_is_stamp {K : PySem.W.Frag} {h : Heap} {mg : Str → Option Value} {f : Addr} {od an : Option Addr} {sl : Array (Option Value)} {oc kV dc pm cd ct : Value} (X : K.In h) (G : h.Ns mainGlobals mg) (a : PySem.W.nsIn K mainGlobals "is_stamp" = some (some (.ref f))) (l : K.lookup f = some ⟨oc, od, .func (PySem.W.fnOf "is_stamp" "is_stamp" (defArgs s_is_stamp) (defBody s_is_stamp) (defScope s_is_stamp) .none kV dc pm an cd ct), sl⟩) (c : PySem.W.codeIn K cd "is_stamp" = true) (k : PySem.W.keepIn K (.ref f) = true) : At K mg "is_stamp" s_is_stamp ["value", "size"] :=
  at_mk X G a l c k (fun _ _ _ _ _ _ us hl => match us, hl with | [_, _], _ => rfl) (fun _ _ _ _ _ _ e => absurd e (by decide)) (fun _ _ _ _ _ _ p q e w1 w2 => by cases e; rfl)
theorem at_check_pairs {K : PySem.W.Frag} {h : Heap} {mg : Str → Option Value} {f : Addr} {od an : Option Addr} {sl : Array (Option Value)} {oc kV dc pm cd ct : Value} (X : K.In h) (G : h.Ns mainGlobals mg) (a : PySem.W.nsIn K mainGlobals "check_pairs" = some (some (.ref f))) (l : K.lookup f = some ⟨oc, od, .func (PySem.W.fnOf "check_pairs" "check_pairs" (defArgs s_check_pairs) (defBody s_check_pairs) (defScope s_check_pairs) .none kV dc pm an cd ct), sl⟩) (c : PySem.W.codeIn K cd "check_pairs" = true) (k : PySem.W.keepIn K (.ref f) = true) : At K mg "check_pairs" s_check_pairs ["pairs", "fitting"] :=
  at_mk X G a l c k (fun _ _ _ _ _ _ us hl => match us, hl with | [_, _], _ => rfl) (fun _ _ _ _ _ _ e => absurd e (by decide)) (fun _ _ _ _ _ _ p q e w1 w2 => by cases e; rfl)
theorem at_marks_differ {K : PySem.W.Frag} {h : Heap} {mg : Str → Option Value} {f : Addr} {od an : Option Addr} {sl : Array (Option Value)} {oc kV dc pm cd ct : Value} (X : K.In h) (G : h.Ns mainGlobals mg) (a : PySem.W.nsIn K mainGlobals "marks_differ" = some (some (.ref f))) (l : K.lookup f = some ⟨oc, od, .func (PySem.W.fnOf "marks_differ" "marks_differ" (defArgs s_marks_differ) (defBody s_marks_differ) (defScope s_marks_differ) .none kV dc pm an cd ct), sl⟩) (c : PySem.W.codeIn K cd "marks_differ" = true) (k : PySem.W.keepIn K (.ref f) = true) : At K mg "marks_differ" s_marks_differ ["one", "two", "cell"] :=
  at_mk X G a l c k (fun _ _ _ _ _ _ us hl => match us, hl with | [_, _, _], _ => rfl) (fun _ _ _ _ _ _ e => absurd e (by decide)) (fun _ _ _ _ _ _ p q e => by cases e)
theorem at_making {K : PySem.W.Frag} {h : Heap} {mg : Str → Option Value} {f : Addr} {od an : Option Addr} {sl : Array (Option Value)} {oc kV dc pm cd ct : Value} (X : K.In h) (G : h.Ns mainGlobals mg) (a : PySem.W.nsIn K mainGlobals "making" = some (some (.ref f))) (l : K.lookup f = some ⟨oc, od, .func (PySem.W.fnOf "making" "making" (defArgs s_making) (defBody s_making) (defScope s_making) .none kV dc pm an cd ct), sl⟩) (c : PySem.W.codeIn K cd "making" = true) (k : PySem.W.keepIn K (.ref f) = true) : At K mg "making" s_making ["stock", "start", "seen"] :=
  at_mk X G a l c k (fun _ _ _ _ _ _ us hl => match us, hl with | [_, _, _], _ => rfl) (fun _ _ _ _ _ _ e => absurd e (by decide)) (fun _ _ _ _ _ _ p q e => by cases e)
theorem at_is_refusal {K : PySem.W.Frag} {h : Heap} {mg : Str → Option Value} {f : Addr} {od an : Option Addr} {sl : Array (Option Value)} {oc kV dc pm cd ct : Value} (X : K.In h) (G : h.Ns mainGlobals mg) (a : PySem.W.nsIn K mainGlobals "is_refusal" = some (some (.ref f))) (l : K.lookup f = some ⟨oc, od, .func (PySem.W.fnOf "is_refusal" "is_refusal" (defArgs s_is_refusal) (defBody s_is_refusal) (defScope s_is_refusal) .none kV dc pm an cd ct), sl⟩) (c : PySem.W.codeIn K cd "is_refusal" = true) (k : PySem.W.keepIn K (.ref f) = true) : At K mg "is_refusal" s_is_refusal ["stock", "start", "seen", "chosen"] :=
  at_mk X G a l c k (fun _ _ _ _ _ _ us hl => match us, hl with | [_, _, _, _], _ => rfl) (fun _ _ _ _ _ _ e => absurd e (by decide)) (fun _ _ _ _ _ _ p q e => by cases e)
theorem at__law_whole {K : PySem.W.Frag} {h : Heap} {mg : Str → Option Value} {f : Addr} {od an : Option Addr} {sl : Array (Option Value)} {oc kV dc pm cd ct : Value} (X : K.In h) (G : h.Ns mainGlobals mg) (a : PySem.W.nsIn K mainGlobals "_law_whole" = some (some (.ref f))) (l : K.lookup f = some ⟨oc, od, .func (PySem.W.fnOf "_law_whole" "_law_whole" (defArgs s__law_whole) (defBody s__law_whole) (defScope s__law_whole) .none kV dc pm an cd ct), sl⟩) (c : PySem.W.codeIn K cd "_law_whole" = true) (k : PySem.W.keepIn K (.ref f) = true) : At K mg "_law_whole" s__law_whole ["value"] :=
  at_mk X G a l c k (fun _ _ _ _ _ _ us hl => match us, hl with | [_], _ => rfl) (fun _ _ _ _ _ _ _ _ => rfl) (fun _ _ _ _ _ _ p q e => by cases e)
theorem at__law_cell {K : PySem.W.Frag} {h : Heap} {mg : Str → Option Value} {f : Addr} {od an : Option Addr} {sl : Array (Option Value)} {oc kV dc pm cd ct : Value} (X : K.In h) (G : h.Ns mainGlobals mg) (a : PySem.W.nsIn K mainGlobals "_law_cell" = some (some (.ref f))) (l : K.lookup f = some ⟨oc, od, .func (PySem.W.fnOf "_law_cell" "_law_cell" (defArgs s__law_cell) (defBody s__law_cell) (defScope s__law_cell) .none kV dc pm an cd ct), sl⟩) (c : PySem.W.codeIn K cd "_law_cell" = true) (k : PySem.W.keepIn K (.ref f) = true) : At K mg "_law_cell" s__law_cell ["script", "k"] :=
  at_mk X G a l c k (fun _ _ _ _ _ _ us hl => match us, hl with | [_, _], _ => rfl) (fun _ _ _ _ _ _ e => absurd e (by decide)) (fun _ _ _ _ _ _ p q e w1 w2 => by cases e; rfl)
theorem at__law_digits {K : PySem.W.Frag} {h : Heap} {mg : Str → Option Value} {f : Addr} {od an : Option Addr} {sl : Array (Option Value)} {oc kV dc pm cd ct : Value} (X : K.In h) (G : h.Ns mainGlobals mg) (a : PySem.W.nsIn K mainGlobals "_law_digits" = some (some (.ref f))) (l : K.lookup f = some ⟨oc, od, .func (PySem.W.fnOf "_law_digits" "_law_digits" (defArgs s__law_digits) (defBody s__law_digits) (defScope s__law_digits) .none kV dc pm an cd ct), sl⟩) (c : PySem.W.codeIn K cd "_law_digits" = true) (k : PySem.W.keepIn K (.ref f) = true) : At K mg "_law_digits" s__law_digits ["cell", "sizes"] :=
  at_mk X G a l c k (fun _ _ _ _ _ _ us hl => match us, hl with | [_, _], _ => rfl) (fun _ _ _ _ _ _ e => absurd e (by decide)) (fun _ _ _ _ _ _ p q e w1 w2 => by cases e; rfl)
theorem at__law_inks {K : PySem.W.Frag} {h : Heap} {mg : Str → Option Value} {f : Addr} {od an : Option Addr} {sl : Array (Option Value)} {oc kV dc pm cd ct : Value} (X : K.In h) (G : h.Ns mainGlobals mg) (a : PySem.W.nsIn K mainGlobals "_law_inks" = some (some (.ref f))) (l : K.lookup f = some ⟨oc, od, .func (PySem.W.fnOf "_law_inks" "_law_inks" (defArgs s__law_inks) (defBody s__law_inks) (defScope s__law_inks) .none kV dc pm an cd ct), sl⟩) (c : PySem.W.codeIn K cd "_law_inks" = true) (k : PySem.W.keepIn K (.ref f) = true) : At K mg "_law_inks" s__law_inks ["line"] :=
  at_mk X G a l c k (fun _ _ _ _ _ _ us hl => match us, hl with | [_], _ => rfl) (fun _ _ _ _ _ _ _ _ => rfl) (fun _ _ _ _ _ _ p q e => by cases e)
theorem at__law_names {K : PySem.W.Frag} {h : Heap} {mg : Str → Option Value} {f : Addr} {od an : Option Addr} {sl : Array (Option Value)} {oc kV dc pm cd ct : Value} (X : K.In h) (G : h.Ns mainGlobals mg) (a : PySem.W.nsIn K mainGlobals "_law_names" = some (some (.ref f))) (l : K.lookup f = some ⟨oc, od, .func (PySem.W.fnOf "_law_names" "_law_names" (defArgs s__law_names) (defBody s__law_names) (defScope s__law_names) .none kV dc pm an cd ct), sl⟩) (c : PySem.W.codeIn K cd "_law_names" = true) (k : PySem.W.keepIn K (.ref f) = true) : At K mg "_law_names" s__law_names ["line", "many"] :=
  at_mk X G a l c k (fun _ _ _ _ _ _ us hl => match us, hl with | [_, _], _ => rfl) (fun _ _ _ _ _ _ e => absurd e (by decide)) (fun _ _ _ _ _ _ p q e w1 w2 => by cases e; rfl)
theorem at__law_text {K : PySem.W.Frag} {h : Heap} {mg : Str → Option Value} {f : Addr} {od an : Option Addr} {sl : Array (Option Value)} {oc kV dc pm cd ct : Value} (X : K.In h) (G : h.Ns mainGlobals mg) (a : PySem.W.nsIn K mainGlobals "_law_text" = some (some (.ref f))) (l : K.lookup f = some ⟨oc, od, .func (PySem.W.fnOf "_law_text" "_law_text" (defArgs s__law_text) (defBody s__law_text) (defScope s__law_text) .none kV dc pm an cd ct), sl⟩) (c : PySem.W.codeIn K cd "_law_text" = true) (k : PySem.W.keepIn K (.ref f) = true) : At K mg "_law_text" s__law_text ["menu", "line", "size"] :=
  at_mk X G a l c k (fun _ _ _ _ _ _ us hl => match us, hl with | [_, _, _], _ => rfl) (fun _ _ _ _ _ _ e => absurd e (by decide)) (fun _ _ _ _ _ _ p q e => by cases e)
theorem at__law_lot {K : PySem.W.Frag} {h : Heap} {mg : Str → Option Value} {f : Addr} {od an : Option Addr} {sl : Array (Option Value)} {oc kV dc pm cd ct : Value} (X : K.In h) (G : h.Ns mainGlobals mg) (a : PySem.W.nsIn K mainGlobals "_law_lot" = some (some (.ref f))) (l : K.lookup f = some ⟨oc, od, .func (PySem.W.fnOf "_law_lot" "_law_lot" (defArgs s__law_lot) (defBody s__law_lot) (defScope s__law_lot) .none kV dc pm an cd ct), sl⟩) (c : PySem.W.codeIn K cd "_law_lot" = true) (k : PySem.W.keepIn K (.ref f) = true) : At K mg "_law_lot" s__law_lot ["script", "at", "upto", "widest"] :=
  at_mk X G a l c k (fun _ _ _ _ _ _ us hl => match us, hl with | [_, _, _, _], _ => rfl) (fun _ _ _ _ _ _ e => absurd e (by decide)) (fun _ _ _ _ _ _ p q e => by cases e)
theorem at__law_press {K : PySem.W.Frag} {h : Heap} {mg : Str → Option Value} {f : Addr} {od an : Option Addr} {sl : Array (Option Value)} {oc kV dc pm cd ct : Value} (X : K.In h) (G : h.Ns mainGlobals mg) (a : PySem.W.nsIn K mainGlobals "_law_press" = some (some (.ref f))) (l : K.lookup f = some ⟨oc, od, .func (PySem.W.fnOf "_law_press" "_law_press" (defArgs s__law_press) (defBody s__law_press) (defScope s__law_press) .none kV dc pm an cd ct), sl⟩) (c : PySem.W.codeIn K cd "_law_press" = true) (k : PySem.W.keepIn K (.ref f) = true) : At K mg "_law_press" s__law_press ["one", "two"] :=
  at_mk X G a l c k (fun _ _ _ _ _ _ us hl => match us, hl with | [_, _], _ => rfl) (fun _ _ _ _ _ _ e => absurd e (by decide)) (fun _ _ _ _ _ _ p q e w1 w2 => by cases e; rfl)
theorem at__law_agree {K : PySem.W.Frag} {h : Heap} {mg : Str → Option Value} {f : Addr} {od an : Option Addr} {sl : Array (Option Value)} {oc kV dc pm cd ct : Value} (X : K.In h) (G : h.Ns mainGlobals mg) (a : PySem.W.nsIn K mainGlobals "_law_agree" = some (some (.ref f))) (l : K.lookup f = some ⟨oc, od, .func (PySem.W.fnOf "_law_agree" "_law_agree" (defArgs s__law_agree) (defBody s__law_agree) (defScope s__law_agree) .none kV dc pm an cd ct), sl⟩) (c : PySem.W.codeIn K cd "_law_agree" = true) (k : PySem.W.keepIn K (.ref f) = true) : At K mg "_law_agree" s__law_agree ["one", "two"] :=
  at_mk X G a l c k (fun _ _ _ _ _ _ us hl => match us, hl with | [_, _], _ => rfl) (fun _ _ _ _ _ _ e => absurd e (by decide)) (fun _ _ _ _ _ _ p q e w1 w2 => by cases e; rfl)
theorem at__law_free {K : PySem.W.Frag} {h : Heap} {mg : Str → Option Value} {f : Addr} {od an : Option Addr} {sl : Array (Option Value)} {oc kV dc pm cd ct : Value} (X : K.In h) (G : h.Ns mainGlobals mg) (a : PySem.W.nsIn K mainGlobals "_law_free" = some (some (.ref f))) (l : K.lookup f = some ⟨oc, od, .func (PySem.W.fnOf "_law_free" "_law_free" (defArgs s__law_free) (defBody s__law_free) (defScope s__law_free) .none kV dc pm an cd ct), sl⟩) (c : PySem.W.codeIn K cd "_law_free" = true) (k : PySem.W.keepIn K (.ref f) = true) : At K mg "_law_free" s__law_free ["one", "two"] :=
  at_mk X G a l c k (fun _ _ _ _ _ _ us hl => match us, hl with | [_, _], _ => rfl) (fun _ _ _ _ _ _ e => absurd e (by decide)) (fun _ _ _ _ _ _ p q e w1 w2 => by cases e; rfl)
theorem at__law_numbers {K : PySem.W.Frag} {h : Heap} {mg : Str → Option Value} {f : Addr} {od an : Option Addr} {sl : Array (Option Value)} {oc kV dc pm cd ct : Value} (X : K.In h) (G : h.Ns mainGlobals mg) (a : PySem.W.nsIn K mainGlobals "_law_numbers" = some (some (.ref f))) (l : K.lookup f = some ⟨oc, od, .func (PySem.W.fnOf "_law_numbers" "_law_numbers" (defArgs s__law_numbers) (defBody s__law_numbers) (defScope s__law_numbers) .none kV dc pm an cd ct), sl⟩) (c : PySem.W.codeIn K cd "_law_numbers" = true) (k : PySem.W.keepIn K (.ref f) = true) : At K mg "_law_numbers" s__law_numbers ["many", "line"] :=
  at_mk X G a l c k (fun _ _ _ _ _ _ us hl => match us, hl with | [_, _], _ => rfl) (fun _ _ _ _ _ _ e => absurd e (by decide)) (fun _ _ _ _ _ _ p q e w1 w2 => by cases e; rfl)
theorem at__law_sheet {K : PySem.W.Frag} {h : Heap} {mg : Str → Option Value} {f : Addr} {od an : Option Addr} {sl : Array (Option Value)} {oc kV dc pm cd ct : Value} (X : K.In h) (G : h.Ns mainGlobals mg) (a : PySem.W.nsIn K mainGlobals "_law_sheet" = some (some (.ref f))) (l : K.lookup f = some ⟨oc, od, .func (PySem.W.fnOf "_law_sheet" "_law_sheet" (defArgs s__law_sheet) (defBody s__law_sheet) (defScope s__law_sheet) .none kV dc pm an cd ct), sl⟩) (c : PySem.W.codeIn K cd "_law_sheet" = true) (k : PySem.W.keepIn K (.ref f) = true) : At K mg "_law_sheet" s__law_sheet ["menu", "line", "size"] :=
  at_mk X G a l c k (fun _ _ _ _ _ _ us hl => match us, hl with | [_, _, _], _ => rfl) (fun _ _ _ _ _ _ e => absurd e (by decide)) (fun _ _ _ _ _ _ p q e => by cases e)
theorem at__law_dashed {K : PySem.W.Frag} {h : Heap} {mg : Str → Option Value} {f : Addr} {od an : Option Addr} {sl : Array (Option Value)} {oc kV dc pm cd ct : Value} (X : K.In h) (G : h.Ns mainGlobals mg) (a : PySem.W.nsIn K mainGlobals "_law_dashed" = some (some (.ref f))) (l : K.lookup f = some ⟨oc, od, .func (PySem.W.fnOf "_law_dashed" "_law_dashed" (defArgs s__law_dashed) (defBody s__law_dashed) (defScope s__law_dashed) .none kV dc pm an cd ct), sl⟩) (c : PySem.W.codeIn K cd "_law_dashed" = true) (k : PySem.W.keepIn K (.ref f) = true) : At K mg "_law_dashed" s__law_dashed ["layer", "line", "much"] :=
  at_mk X G a l c k (fun _ _ _ _ _ _ us hl => match us, hl with | [_, _, _], _ => rfl) (fun _ _ _ _ _ _ e => absurd e (by decide)) (fun _ _ _ _ _ _ p q e => by cases e)
theorem at__law_scene {K : PySem.W.Frag} {h : Heap} {mg : Str → Option Value} {f : Addr} {od an : Option Addr} {sl : Array (Option Value)} {oc kV dc pm cd ct : Value} (X : K.In h) (G : h.Ns mainGlobals mg) (a : PySem.W.nsIn K mainGlobals "_law_scene" = some (some (.ref f))) (l : K.lookup f = some ⟨oc, od, .func (PySem.W.fnOf "_law_scene" "_law_scene" (defArgs s__law_scene) (defBody s__law_scene) (defScope s__law_scene) .none kV dc pm an cd ct), sl⟩) (c : PySem.W.codeIn K cd "_law_scene" = true) (k : PySem.W.keepIn K (.ref f) = true) : At K mg "_law_scene" s__law_scene ["script", "at", "lot"] :=
  at_mk X G a l c k (fun _ _ _ _ _ _ us hl => match us, hl with | [_, _, _], _ => rfl) (fun _ _ _ _ _ _ e => absurd e (by decide)) (fun _ _ _ _ _ _ p q e => by cases e)
theorem at__law_chain {K : PySem.W.Frag} {h : Heap} {mg : Str → Option Value} {f : Addr} {od an : Option Addr} {sl : Array (Option Value)} {oc kV dc pm cd ct : Value} (X : K.In h) (G : h.Ns mainGlobals mg) (a : PySem.W.nsIn K mainGlobals "_law_chain" = some (some (.ref f))) (l : K.lookup f = some ⟨oc, od, .func (PySem.W.fnOf "_law_chain" "_law_chain" (defArgs s__law_chain) (defBody s__law_chain) (defScope s__law_chain) .none kV dc pm an cd ct), sl⟩) (c : PySem.W.codeIn K cd "_law_chain" = true) (k : PySem.W.keepIn K (.ref f) = true) : At K mg "_law_chain" s__law_chain ["script", "at"] :=
  at_mk X G a l c k (fun _ _ _ _ _ _ us hl => match us, hl with | [_, _], _ => rfl) (fun _ _ _ _ _ _ e => absurd e (by decide)) (fun _ _ _ _ _ _ p q e w1 w2 => by cases e; rfl)
theorem at__law_layer_of {K : PySem.W.Frag} {h : Heap} {mg : Str → Option Value} {f : Addr} {od an : Option Addr} {sl : Array (Option Value)} {oc kV dc pm cd ct : Value} (X : K.In h) (G : h.Ns mainGlobals mg) (a : PySem.W.nsIn K mainGlobals "_law_layer_of" = some (some (.ref f))) (l : K.lookup f = some ⟨oc, od, .func (PySem.W.fnOf "_law_layer_of" "_law_layer_of" (defArgs s__law_layer_of) (defBody s__law_layer_of) (defScope s__law_layer_of) .none kV dc pm an cd ct), sl⟩) (c : PySem.W.codeIn K cd "_law_layer_of" = true) (k : PySem.W.keepIn K (.ref f) = true) : At K mg "_law_layer_of" s__law_layer_of ["stamps", "name"] :=
  at_mk X G a l c k (fun _ _ _ _ _ _ us hl => match us, hl with | [_, _], _ => rfl) (fun _ _ _ _ _ _ e => absurd e (by decide)) (fun _ _ _ _ _ _ p q e w1 w2 => by cases e; rfl)
theorem at__law_fits {K : PySem.W.Frag} {h : Heap} {mg : Str → Option Value} {f : Addr} {od an : Option Addr} {sl : Array (Option Value)} {oc kV dc pm cd ct : Value} (X : K.In h) (G : h.Ns mainGlobals mg) (a : PySem.W.nsIn K mainGlobals "_law_fits" = some (some (.ref f))) (l : K.lookup f = some ⟨oc, od, .func (PySem.W.fnOf "_law_fits" "_law_fits" (defArgs s__law_fits) (defBody s__law_fits) (defScope s__law_fits) .none kV dc pm an cd ct), sl⟩) (c : PySem.W.codeIn K cd "_law_fits" = true) (k : PySem.W.keepIn K (.ref f) = true) : At K mg "_law_fits" s__law_fits ["sheet", "layer"] :=
  at_mk X G a l c k (fun _ _ _ _ _ _ us hl => match us, hl with | [_, _], _ => rfl) (fun _ _ _ _ _ _ e => absurd e (by decide)) (fun _ _ _ _ _ _ p q e w1 w2 => by cases e; rfl)
theorem at__law_fast {K : PySem.W.Frag} {h : Heap} {mg : Str → Option Value} {f : Addr} {od an : Option Addr} {sl : Array (Option Value)} {oc kV dc pm cd ct : Value} (X : K.In h) (G : h.Ns mainGlobals mg) (a : PySem.W.nsIn K mainGlobals "_law_fast" = some (some (.ref f))) (l : K.lookup f = some ⟨oc, od, .func (PySem.W.fnOf "_law_fast" "_law_fast" (defArgs s__law_fast) (defBody s__law_fast) (defScope s__law_fast) .none kV dc pm an cd ct), sl⟩) (c : PySem.W.codeIn K cd "_law_fast" = true) (k : PySem.W.keepIn K (.ref f) = true) : At K mg "_law_fast" s__law_fast ["stamps", "shown", "cells"] :=
  at_mk X G a l c k (fun _ _ _ _ _ _ us hl => match us, hl with | [_, _, _], _ => rfl) (fun _ _ _ _ _ _ e => absurd e (by decide)) (fun _ _ _ _ _ _ p q e => by cases e)
theorem at__law_subsets {K : PySem.W.Frag} {h : Heap} {mg : Str → Option Value} {f : Addr} {od an : Option Addr} {sl : Array (Option Value)} {oc kV dc pm cd ct : Value} (X : K.In h) (G : h.Ns mainGlobals mg) (a : PySem.W.nsIn K mainGlobals "_law_subsets" = some (some (.ref f))) (l : K.lookup f = some ⟨oc, od, .func (PySem.W.fnOf "_law_subsets" "_law_subsets" (defArgs s__law_subsets) (defBody s__law_subsets) (defScope s__law_subsets) .none kV dc pm an cd ct), sl⟩) (c : PySem.W.codeIn K cd "_law_subsets" = true) (k : PySem.W.keepIn K (.ref f) = true) : At K mg "_law_subsets" s__law_subsets ["cells"] :=
  at_mk X G a l c k (fun _ _ _ _ _ _ us hl => match us, hl with | [_], _ => rfl) (fun _ _ _ _ _ _ _ _ => rfl) (fun _ _ _ _ _ _ p q e => by cases e)
theorem at__law_first {K : PySem.W.Frag} {h : Heap} {mg : Str → Option Value} {f : Addr} {od an : Option Addr} {sl : Array (Option Value)} {oc kV dc pm cd ct : Value} (X : K.In h) (G : h.Ns mainGlobals mg) (a : PySem.W.nsIn K mainGlobals "_law_first" = some (some (.ref f))) (l : K.lookup f = some ⟨oc, od, .func (PySem.W.fnOf "_law_first" "_law_first" (defArgs s__law_first) (defBody s__law_first) (defScope s__law_first) .none kV dc pm an cd ct), sl⟩) (c : PySem.W.codeIn K cd "_law_first" = true) (k : PySem.W.keepIn K (.ref f) = true) : At K mg "_law_first" s__law_first ["stamps", "stay"] :=
  at_mk X G a l c k (fun _ _ _ _ _ _ us hl => match us, hl with | [_, _], _ => rfl) (fun _ _ _ _ _ _ e => absurd e (by decide)) (fun _ _ _ _ _ _ p q e w1 w2 => by cases e; rfl)
theorem at__law_peel {K : PySem.W.Frag} {h : Heap} {mg : Str → Option Value} {f : Addr} {od an : Option Addr} {sl : Array (Option Value)} {oc kV dc pm cd ct : Value} (X : K.In h) (G : h.Ns mainGlobals mg) (a : PySem.W.nsIn K mainGlobals "_law_peel" = some (some (.ref f))) (l : K.lookup f = some ⟨oc, od, .func (PySem.W.fnOf "_law_peel" "_law_peel" (defArgs s__law_peel) (defBody s__law_peel) (defScope s__law_peel) .none kV dc pm an cd ct), sl⟩) (c : PySem.W.codeIn K cd "_law_peel" = true) (k : PySem.W.keepIn K (.ref f) = true) : At K mg "_law_peel" s__law_peel ["stamps", "shown"] :=
  at_mk X G a l c k (fun _ _ _ _ _ _ us hl => match us, hl with | [_, _], _ => rfl) (fun _ _ _ _ _ _ e => absurd e (by decide)) (fun _ _ _ _ _ _ p q e w1 w2 => by cases e; rfl)
theorem at__law_pressed {K : PySem.W.Frag} {h : Heap} {mg : Str → Option Value} {f : Addr} {od an : Option Addr} {sl : Array (Option Value)} {oc kV dc pm cd ct : Value} (X : K.In h) (G : h.Ns mainGlobals mg) (a : PySem.W.nsIn K mainGlobals "_law_pressed" = some (some (.ref f))) (l : K.lookup f = some ⟨oc, od, .func (PySem.W.fnOf "_law_pressed" "_law_pressed" (defArgs s__law_pressed) (defBody s__law_pressed) (defScope s__law_pressed) .none kV dc pm an cd ct), sl⟩) (c : PySem.W.codeIn K cd "_law_pressed" = true) (k : PySem.W.keepIn K (.ref f) = true) : At K mg "_law_pressed" s__law_pressed ["stamps", "layer", "presses"] :=
  at_mk X G a l c k (fun _ _ _ _ _ _ us hl => match us, hl with | [_, _, _], _ => rfl) (fun _ _ _ _ _ _ e => absurd e (by decide)) (fun _ _ _ _ _ _ p q e => by cases e)
theorem at__law_ground {K : PySem.W.Frag} {h : Heap} {mg : Str → Option Value} {f : Addr} {od an : Option Addr} {sl : Array (Option Value)} {oc kV dc pm cd ct : Value} (X : K.In h) (G : h.Ns mainGlobals mg) (a : PySem.W.nsIn K mainGlobals "_law_ground" = some (some (.ref f))) (l : K.lookup f = some ⟨oc, od, .func (PySem.W.fnOf "_law_ground" "_law_ground" (defArgs s__law_ground) (defBody s__law_ground) (defScope s__law_ground) .none kV dc pm an cd ct), sl⟩) (c : PySem.W.codeIn K cd "_law_ground" = true) (k : PySem.W.keepIn K (.ref f) = true) : At K mg "_law_ground" s__law_ground ["base", "stay"] :=
  at_mk X G a l c k (fun _ _ _ _ _ _ us hl => match us, hl with | [_, _], _ => rfl) (fun _ _ _ _ _ _ e => absurd e (by decide)) (fun _ _ _ _ _ _ p q e w1 w2 => by cases e; rfl)
theorem at__law_leads {K : PySem.W.Frag} {h : Heap} {mg : Str → Option Value} {f : Addr} {od an : Option Addr} {sl : Array (Option Value)} {oc kV dc pm cd ct : Value} (X : K.In h) (G : h.Ns mainGlobals mg) (a : PySem.W.nsIn K mainGlobals "_law_leads" = some (some (.ref f))) (l : K.lookup f = some ⟨oc, od, .func (PySem.W.fnOf "_law_leads" "_law_leads" (defArgs s__law_leads) (defBody s__law_leads) (defScope s__law_leads) .none kV dc pm an cd ct), sl⟩) (c : PySem.W.codeIn K cd "_law_leads" = true) (k : PySem.W.keepIn K (.ref f) = true) : At K mg "_law_leads" s__law_leads ["stamps", "base", "shown", "actual"] :=
  at_mk X G a l c k (fun _ _ _ _ _ _ us hl => match us, hl with | [_, _, _, _], _ => rfl) (fun _ _ _ _ _ _ e => absurd e (by decide)) (fun _ _ _ _ _ _ p q e => by cases e)
theorem at__law_barred {K : PySem.W.Frag} {h : Heap} {mg : Str → Option Value} {f : Addr} {od an : Option Addr} {sl : Array (Option Value)} {oc kV dc pm cd ct : Value} (X : K.In h) (G : h.Ns mainGlobals mg) (a : PySem.W.nsIn K mainGlobals "_law_barred" = some (some (.ref f))) (l : K.lookup f = some ⟨oc, od, .func (PySem.W.fnOf "_law_barred" "_law_barred" (defArgs s__law_barred) (defBody s__law_barred) (defScope s__law_barred) .none kV dc pm an cd ct), sl⟩) (c : PySem.W.codeIn K cd "_law_barred" = true) (k : PySem.W.keepIn K (.ref f) = true) : At K mg "_law_barred" s__law_barred ["stamps", "base", "shown", "actual"] :=
  at_mk X G a l c k (fun _ _ _ _ _ _ us hl => match us, hl with | [_, _, _, _], _ => rfl) (fun _ _ _ _ _ _ e => absurd e (by decide)) (fun _ _ _ _ _ _ p q e => by cases e)
theorem at__law_shows {K : PySem.W.Frag} {h : Heap} {mg : Str → Option Value} {f : Addr} {od an : Option Addr} {sl : Array (Option Value)} {oc kV dc pm cd ct : Value} (X : K.In h) (G : h.Ns mainGlobals mg) (a : PySem.W.nsIn K mainGlobals "_law_shows" = some (some (.ref f))) (l : K.lookup f = some ⟨oc, od, .func (PySem.W.fnOf "_law_shows" "_law_shows" (defArgs s__law_shows) (defBody s__law_shows) (defScope s__law_shows) .none kV dc pm an cd ct), sl⟩) (c : PySem.W.codeIn K cd "_law_shows" = true) (k : PySem.W.keepIn K (.ref f) = true) : At K mg "_law_shows" s__law_shows ["stamps", "base", "shown", "actual"] :=
  at_mk X G a l c k (fun _ _ _ _ _ _ us hl => match us, hl with | [_, _, _, _], _ => rfl) (fun _ _ _ _ _ _ e => absurd e (by decide)) (fun _ _ _ _ _ _ p q e => by cases e)
theorem at__law_bars {K : PySem.W.Frag} {h : Heap} {mg : Str → Option Value} {f : Addr} {od an : Option Addr} {sl : Array (Option Value)} {oc kV dc pm cd ct : Value} (X : K.In h) (G : h.Ns mainGlobals mg) (a : PySem.W.nsIn K mainGlobals "_law_bars" = some (some (.ref f))) (l : K.lookup f = some ⟨oc, od, .func (PySem.W.fnOf "_law_bars" "_law_bars" (defArgs s__law_bars) (defBody s__law_bars) (defScope s__law_bars) .none kV dc pm an cd ct), sl⟩) (c : PySem.W.codeIn K cd "_law_bars" = true) (k : PySem.W.keepIn K (.ref f) = true) : At K mg "_law_bars" s__law_bars ["stamps", "base", "shown", "cells"] :=
  at_mk X G a l c k (fun _ _ _ _ _ _ us hl => match us, hl with | [_, _, _, _], _ => rfl) (fun _ _ _ _ _ _ e => absurd e (by decide)) (fun _ _ _ _ _ _ p q e => by cases e)
theorem at__law_tried {K : PySem.W.Frag} {h : Heap} {mg : Str → Option Value} {f : Addr} {od an : Option Addr} {sl : Array (Option Value)} {oc kV dc pm cd ct : Value} (X : K.In h) (G : h.Ns mainGlobals mg) (a : PySem.W.nsIn K mainGlobals "_law_tried" = some (some (.ref f))) (l : K.lookup f = some ⟨oc, od, .func (PySem.W.fnOf "_law_tried" "_law_tried" (defArgs s__law_tried) (defBody s__law_tried) (defScope s__law_tried) .none kV dc pm an cd ct), sl⟩) (c : PySem.W.codeIn K cd "_law_tried" = true) (k : PySem.W.keepIn K (.ref f) = true) : At K mg "_law_tried" s__law_tried ["script", "size", "stuck"] :=
  at_mk X G a l c k (fun _ _ _ _ _ _ us hl => match us, hl with | [_, _, _], _ => rfl) (fun _ _ _ _ _ _ e => absurd e (by decide)) (fun _ _ _ _ _ _ p q e => by cases e)
theorem at__law_judged {K : PySem.W.Frag} {h : Heap} {mg : Str → Option Value} {f : Addr} {od an : Option Addr} {sl : Array (Option Value)} {oc kV dc pm cd ct : Value} (X : K.In h) (G : h.Ns mainGlobals mg) (a : PySem.W.nsIn K mainGlobals "_law_judged" = some (some (.ref f))) (l : K.lookup f = some ⟨oc, od, .func (PySem.W.fnOf "_law_judged" "_law_judged" (defArgs s__law_judged) (defBody s__law_judged) (defScope s__law_judged) .none kV dc pm an cd ct), sl⟩) (c : PySem.W.codeIn K cd "_law_judged" = true) (k : PySem.W.keepIn K (.ref f) = true) : At K mg "_law_judged" s__law_judged ["script", "built", "stamps", "base", "shown", "stuck"] :=
  at_mk X G a l c k (fun _ _ _ _ _ _ us hl => match us, hl with | [_, _, _, _, _, _], _ => rfl) (fun _ _ _ _ _ _ e => absurd e (by decide)) (fun _ _ _ _ _ _ p q e => by cases e)
theorem at__law_told {K : PySem.W.Frag} {h : Heap} {mg : Str → Option Value} {f : Addr} {od an : Option Addr} {sl : Array (Option Value)} {oc kV dc pm cd ct : Value} (X : K.In h) (G : h.Ns mainGlobals mg) (a : PySem.W.nsIn K mainGlobals "_law_told" = some (some (.ref f))) (l : K.lookup f = some ⟨oc, od, .func (PySem.W.fnOf "_law_told" "_law_told" (defArgs s__law_told) (defBody s__law_told) (defScope s__law_told) .none kV dc pm an cd ct), sl⟩) (c : PySem.W.codeIn K cd "_law_told" = true) (k : PySem.W.keepIn K (.ref f) = true) : At K mg "_law_told" s__law_told ["script", "built", "stamps", "base", "shown"] :=
  at_mk X G a l c k (fun _ _ _ _ _ _ us hl => match us, hl with | [_, _, _, _, _], _ => rfl) (fun _ _ _ _ _ _ e => absurd e (by decide)) (fun _ _ _ _ _ _ p q e => by cases e)
theorem at__law_drawn {K : PySem.W.Frag} {h : Heap} {mg : Str → Option Value} {f : Addr} {od an : Option Addr} {sl : Array (Option Value)} {oc kV dc pm cd ct : Value} (X : K.In h) (G : h.Ns mainGlobals mg) (a : PySem.W.nsIn K mainGlobals "_law_drawn" = some (some (.ref f))) (l : K.lookup f = some ⟨oc, od, .func (PySem.W.fnOf "_law_drawn" "_law_drawn" (defArgs s__law_drawn) (defBody s__law_drawn) (defScope s__law_drawn) .none kV dc pm an cd ct), sl⟩) (c : PySem.W.codeIn K cd "_law_drawn" = true) (k : PySem.W.keepIn K (.ref f) = true) : At K mg "_law_drawn" s__law_drawn ["script"] :=
  at_mk X G a l c k (fun _ _ _ _ _ _ us hl => match us, hl with | [_], _ => rfl) (fun _ _ _ _ _ _ _ _ => rfl) (fun _ _ _ _ _ _ p q e => by cases e)
theorem at_law {K : PySem.W.Frag} {h : Heap} {mg : Str → Option Value} {f : Addr} {od an : Option Addr} {sl : Array (Option Value)} {oc kV dc pm cd ct : Value} (X : K.In h) (G : h.Ns mainGlobals mg) (a : PySem.W.nsIn K mainGlobals "law" = some (some (.ref f))) (l : K.lookup f = some ⟨oc, od, .func (PySem.W.fnOf "law" "law" (defArgs s_law) (defBody s_law) (defScope s_law) .none kV dc pm an cd ct), sl⟩) (c : PySem.W.codeIn K cd "law" = true) (k : PySem.W.keepIn K (.ref f) = true) : At K mg "law" s_law ["script"] :=
  at_mk X G a l c k (fun _ _ _ _ _ _ us hl => match us, hl with | [_], _ => rfl) (fun _ _ _ _ _ _ _ _ => rfl) (fun _ _ _ _ _ _ p q e => by cases e)
theorem atW_making {K : PySem.W.Frag} {h : Heap} {mg : Str → Option Value} {f : Addr} {od an : Option Addr} {sl : Array (Option Value)} {oc kV dc pm cd ct : Value} (X : K.In h) (G : h.Ns mainGlobals mg) (a : PySem.W.nsIn K mainGlobals "making" = some (some (.ref f))) (l : K.lookup f = some ⟨oc, od, .func (PySem.W.fnOf "making" "making" (defArgs s_making) (defBody s_making) (defScope s_making) .none kV dc pm an cd ct), sl⟩) (c : PySem.W.codeIn K cd "making" = true) (k : PySem.W.keepIn K (.ref f) = true) : AtW K mg "making" s_making ["stock", "start", "seen"] :=
  ⟨_, _, PySem.W.mg_of X G a, fun_mk (st := s_making) l c k, fun s ws hl => match ws, hl with | [_, _, _], _ => .of_eq rfl⟩
theorem atW_is_refusal {K : PySem.W.Frag} {h : Heap} {mg : Str → Option Value} {f : Addr} {od an : Option Addr} {sl : Array (Option Value)} {oc kV dc pm cd ct : Value} (X : K.In h) (G : h.Ns mainGlobals mg) (a : PySem.W.nsIn K mainGlobals "is_refusal" = some (some (.ref f))) (l : K.lookup f = some ⟨oc, od, .func (PySem.W.fnOf "is_refusal" "is_refusal" (defArgs s_is_refusal) (defBody s_is_refusal) (defScope s_is_refusal) .none kV dc pm an cd ct), sl⟩) (c : PySem.W.codeIn K cd "is_refusal" = true) (k : PySem.W.keepIn K (.ref f) = true) : AtW K mg "is_refusal" s_is_refusal ["stock", "start", "seen", "chosen"] :=
  ⟨_, _, PySem.W.mg_of X G a, fun_mk (st := s_is_refusal) l c k, fun s ws hl => match ws, hl with | [_, _, _, _], _ => .of_eq rfl⟩
abbrev s_Stock___iter__ : Stmt := inClass (topS 34) 4
theorem sc_Stock___iter__ : FnScope ["self"] ["self"] (defScope s_Stock___iter__) := ⟨rfl, rfl, rfl, by decide +kernel, rfl, by decide +kernel, by decide +kernel⟩

theorem iter_okStock {P : Program} {w : World} {K : PySem.W.Frag} {mg : Str → Option Value} {base : Heap} {f C : Addr} {fd : FuncData} (T : Txt K mg) (TS : StTxt K mg C) (F : Fun K "__iter__" "Stock.__iter__" s_Stock___iter__ f fd) (hi : PySem.W.findIn K (.ref C) "__iter__" = some (some (.ref f))) (hfn : PySem.W.isFn K (.ref f) = true) (hb : Binds K fd ["self"] []) : IterFn P w K mg base 1 f C "stamps" := by
  have sc := sc_Stock___iter__
  refine iter_mk F sc hi hfn TS.cl TS.nT rfl hb fun cdv A outer s H hr => ?_
  exact pss_one (ps_ret (pe_callB cr_iterT (by rfl) T.b_iter (by decide +kernel) (pa_cons (pe_fld (pv 0) rfl) pa_nil)))
end Mi

set_option maxHeartbeats 4000000
namespace Mi
open PySem PySem.Spec PyProof.Rows L2 Evl
theorem fn_all {P : Program} {w : World} {K : PySem.W.Frag} {mg : Str → Option Value} {base : Heap} {f0 C CP CM fI fi fC fS fP fM : Addr} {fd0 fdI fdN fdS fdP fdM : FuncData} (O : ObTy K CM) (T : Txt K mg)
    (TS : StTxt K mg C)
    (TP : PeTxt K mg CP)
    (TM : MkTxt K mg CM)
    (F : Fun K "law" "law" s_law f0 fd0)
    (FI : Fun K "__init__" "Stock.__init__" s_Stock___init__ fI fdI) (bI : Binds K fdI ["self", "size", "stamps"] [])
    (M_init : Mk K C fI)
    (F_iter : IterFn P w K mg base 1 fi C "stamps")
    (FN : Fun K "__contains__" "Stock.__contains__" s_Stock___contains__ fC fdN) (bN : Binds K fdN ["self", "name"] [])
    (hiN : PySem.W.findIn K (.ref C) "__contains__" = some (some (.ref fC))) (hfN : PySem.W.isFn K (.ref fC) = true)
    (FS : Fun K "stamp" "Stock.stamp" s_Stock_stamp fS fdS) (bS : Binds K fdS ["self", "name"] [])
    (M_stamp : Meth K C "stamp" fS)
    (FP : Fun K "__init__" "Peeling.__init__" s_Peeling___init__ fP fdP) (bP : Binds K fdP ["self", "seen", "order", "left"] [])
    (M_initP : Mk K CP fP)
    (FM : Fun K "__init__" "Making.__init__" s_Making___init__ fM fdM) (bM : Binds K fdM ["self", "made", "row", "cells", "cell"] [])
    (M_initM : Mk K CM fM)
    (a_is_layer : At K mg "is_layer" s_is_layer ["value"])
    (a_cells_of : At K mg "cells_of" s_cells_of ["one"])
    (a_agree : At K mg "agree" s_agree ["one", "two"])
    (a_peeled : At K mg "peeled" s_peeled ["left", "stamp"])
    (a_first_to_peel : At K mg "first_to_peel" s_first_to_peel ["stock", "left"])
    (a_peeling : At K mg "peeling" s_peeling ["stock", "seen"])
    (a_differs_at : At K mg "differs_at" s_differs_at ["stamp", "seen", "cells"])
    (a_covers_any : At K mg "covers_any" s_covers_any ["stamp", "cells"])
    (a_is_fast : At K mg "is_fast" s_is_fast ["stock", "seen", "chosen"])
    (a_as_tuples : At K mg "as_tuples" s_as_tuples ["value"])
    (a_is_name : At K mg "is_name" s_is_name ["value"])
    (a_is_stamp : At K mg "is_stamp" s_is_stamp ["value", "size"])
    (a_check_pairs : At K mg "check_pairs" s_check_pairs ["pairs", "fitting"])
    (a_marks_differ : At K mg "marks_differ" s_marks_differ ["one", "two", "cell"])
    (a_making : At K mg "making" s_making ["stock", "start", "seen"])
    (a_is_refusal : At K mg "is_refusal" s_is_refusal ["stock", "start", "seen", "chosen"])
    (a__law_whole : At K mg "_law_whole" s__law_whole ["value"])
    (a__law_cell : At K mg "_law_cell" s__law_cell ["script", "k"])
    (a__law_digits : At K mg "_law_digits" s__law_digits ["cell", "sizes"])
    (a__law_inks : At K mg "_law_inks" s__law_inks ["line"])
    (a__law_names : At K mg "_law_names" s__law_names ["line", "many"])
    (a__law_text : At K mg "_law_text" s__law_text ["menu", "line", "size"])
    (a__law_lot : At K mg "_law_lot" s__law_lot ["script", "at", "upto", "widest"])
    (a__law_press : At K mg "_law_press" s__law_press ["one", "two"])
    (a__law_agree : At K mg "_law_agree" s__law_agree ["one", "two"])
    (a__law_free : At K mg "_law_free" s__law_free ["one", "two"])
    (a__law_numbers : At K mg "_law_numbers" s__law_numbers ["many", "line"])
    (a__law_sheet : At K mg "_law_sheet" s__law_sheet ["menu", "line", "size"])
    (a__law_dashed : At K mg "_law_dashed" s__law_dashed ["layer", "line", "much"])
    (a__law_scene : At K mg "_law_scene" s__law_scene ["script", "at", "lot"])
    (a__law_chain : At K mg "_law_chain" s__law_chain ["script", "at"])
    (a__law_layer_of : At K mg "_law_layer_of" s__law_layer_of ["stamps", "name"])
    (a__law_fits : At K mg "_law_fits" s__law_fits ["sheet", "layer"])
    (a__law_fast : At K mg "_law_fast" s__law_fast ["stamps", "shown", "cells"])
    (a__law_subsets : At K mg "_law_subsets" s__law_subsets ["cells"])
    (a__law_first : At K mg "_law_first" s__law_first ["stamps", "stay"])
    (a__law_peel : At K mg "_law_peel" s__law_peel ["stamps", "shown"])
    (a__law_pressed : At K mg "_law_pressed" s__law_pressed ["stamps", "layer", "presses"])
    (a__law_ground : At K mg "_law_ground" s__law_ground ["base", "stay"])
    (a__law_leads : At K mg "_law_leads" s__law_leads ["stamps", "base", "shown", "actual"])
    (a__law_barred : At K mg "_law_barred" s__law_barred ["stamps", "base", "shown", "actual"])
    (a__law_shows : At K mg "_law_shows" s__law_shows ["stamps", "base", "shown", "actual"])
    (a__law_bars : At K mg "_law_bars" s__law_bars ["stamps", "base", "shown", "cells"])
    (a__law_tried : At K mg "_law_tried" s__law_tried ["script", "size", "stuck"])
    (a__law_judged : At K mg "_law_judged" s__law_judged ["script", "built", "stamps", "base", "shown", "stuck"])
    (a__law_told : At K mg "_law_told" s__law_told ["script", "built", "stamps", "base", "shown"])
    (a__law_drawn : At K mg "_law_drawn" s__law_drawn ["script"])
    (aW_making : AtW K mg "making" s_making ["stock", "start", "seen"])
    (aW_is_refusal : AtW K mg "is_refusal" s_is_refusal ["stock", "start", "seen", "chosen"])
    : FnOk P w K mg base CX0 8 f0 fd0 ["script"] (spLaw K) := by
  have C_is_layer := has_is_layer (P := P) (w := w) (base := base) T a_is_layer
  have C_cells_of := has_cells_of (P := P) (w := w) (base := base) T a_cells_of
  have C_agree := has_agree (P := P) (w := w) (base := base) T a_agree
  have C_peeled := has_peeled (P := P) (w := w) (base := base) T a_peeled
  have C_first_to_peel := has_first_to_peel (P := P) (w := w) (base := base) T a_first_to_peel F_iter C_agree C_peeled
  have C_differs_at := has_differs_at (P := P) (w := w) (base := base) T a_differs_at
  have C_covers_any := has_covers_any (P := P) (w := w) (base := base) T a_covers_any
  have C_is_fast := has_is_fast (P := P) (w := w) (base := base) T a_is_fast F_iter C_covers_any C_differs_at
  have C_as_tuples := has_as_tuples (P := P) (w := w) (base := base) T a_as_tuples 3
  have C_is_name := has_is_name (P := P) (w := w) (base := base) T a_is_name
  have C_is_stamp := has_is_stamp (P := P) (w := w) (base := base) T a_is_stamp C_is_layer C_cells_of
  have C_check_pairs := has_check_pairs (P := P) (w := w) (base := base) T a_check_pairs C_is_name
  have C_marks_differ := has_marks_differ (P := P) (w := w) (base := base) T a_marks_differ
  have C_is_refusal := has_is_refusal (P := P) (w := w) (base := base) T a_is_refusal C_is_fast C_marks_differ
  have C__law_whole := has__law_whole (P := P) (w := w) (base := base) T a__law_whole
  have C__law_cell := has__law_cell (P := P) (w := w) (base := base) T a__law_cell
  have C__law_digits := has__law_digits (P := P) (w := w) (base := base) T a__law_digits
  have C__law_inks := has__law_inks (P := P) (w := w) (base := base) T a__law_inks
  have C__law_names := has__law_names (P := P) (w := w) (base := base) T a__law_names
  have C__law_text := has__law_text (P := P) (w := w) (base := base) T a__law_text
  have C__law_lot := has__law_lot (P := P) (w := w) (base := base) T a__law_lot C__law_cell C__law_digits C__law_inks C__law_names C__law_text
  have C__law_press := has__law_press (P := P) (w := w) (base := base) T a__law_press
  have C__law_agree := has__law_agree (P := P) (w := w) (base := base) T a__law_agree
  have C__law_free := has__law_free (P := P) (w := w) (base := base) T a__law_free
  have C__law_numbers := has__law_numbers (P := P) (w := w) (base := base) T a__law_numbers
  have C__law_sheet := has__law_sheet (P := P) (w := w) (base := base) T a__law_sheet
  have C__law_dashed := has__law_dashed (P := P) (w := w) (base := base) T a__law_dashed
  have C__law_scene := has__law_scene (P := P) (w := w) (base := base) T a__law_scene C__law_cell C__law_digits C__law_numbers C__law_sheet C__law_press C__law_dashed
  have C__law_chain := has__law_chain (P := P) (w := w) (base := base) T a__law_chain C__law_cell C__law_digits C__law_inks C__law_names
  have C__law_layer_of := has__law_layer_of (P := P) (w := w) (base := base) T a__law_layer_of
  have C__law_fits := has__law_fits (P := P) (w := w) (base := base) T a__law_fits C__law_agree
  have C__law_fast := has__law_fast (P := P) (w := w) (base := base) T a__law_fast
  have C__law_subsets := has__law_subsets (P := P) (w := w) (base := base) T a__law_subsets
  have C__law_first := has__law_first (P := P) (w := w) (base := base) T a__law_first C__law_agree C__law_free
  have C__law_peel := has__law_peel (P := P) (w := w) (base := base) T a__law_peel C__law_first C__law_free
  have C__law_pressed := has__law_pressed (P := P) (w := w) (base := base) T a__law_pressed C__law_press C__law_layer_of
  have C__law_ground := has__law_ground (P := P) (w := w) (base := base) T a__law_ground C__law_press
  have C__law_leads := has__law_leads (P := P) (w := w) (base := base) T TM a__law_leads C__law_layer_of C__law_peel C__law_ground C__law_fits C__law_pressed
  have C__law_barred := has__law_barred (P := P) (w := w) (base := base) T TM a__law_barred C__law_peel C__law_whole C__law_fast
  have C__law_shows := has__law_shows (P := P) (w := w) (base := base) T TM O a__law_shows C__law_leads C__law_barred
  have C__law_bars := has__law_bars (P := P) (w := w) (base := base) T a__law_bars C__law_fast
  have C__law_drawn := has__law_drawn (P := P) (w := w) (base := base) T a__law_drawn C__law_lot C__law_cell C__law_chain C__law_scene
  have W_is_refusal := hasW_is_refusal (P := P) (w := w) (base := base) T aW_is_refusal C_is_fast C_marks_differ
  have C__law_digitsF := has__law_digitsF (P := P) (w := w) (base := base) T a__law_digits
  have F_init := ok_init (P := P) (w := w) (base := base) FI T TS C_as_tuples C_is_stamp C_check_pairs
  have F_contains := ok_contains (P := P) (w := w) (base := base) FN T TS
  have F_stamp := ok_stamp (P := P) (w := w) (base := base) FS T TS hiN hfN F_contains bN
  have F_initP := ok_initP (P := P) (w := w) (base := base) FP T TP
  have F_initM := ok_initM (P := P) (w := w) (base := base) FM T TM
  have C_peeling := has_peeling (P := P) (w := w) (base := base) T TS TP a_peeling C_first_to_peel C_peeled M_stamp F_stamp bS M_initP F_initP bP
  have C_making := has_making (P := P) (w := w) (base := base) T TP TM a_making C_peeling C_cells_of C_marks_differ M_initM F_initM bM
  have C__law_tried := has__law_tried (P := P) (w := w) (base := base) T a__law_tried C__law_cell C__law_digitsF C__law_subsets
  have C__law_judged := has__law_judged (P := P) (w := w) (base := base) T a__law_judged C__law_bars C__law_cell C__law_digits C__law_tried C_is_refusal W_is_refusal
  have W_making := hasW_making (P := P) (w := w) (base := base) T TP TM aW_making C_peeling C_cells_of C_marks_differ M_initM F_initM bM
  have C__law_told := has__law_told (P := P) (w := w) (base := base) T TM a__law_told C_making W_making C__law_shows C__law_peel C__law_bars C_is_refusal C__law_judged
  exact fn_law T TS F M_init F_init bI C__law_drawn C_making C__law_told C__law_shows
theorem no_str {K : PySem.W.Frag} {C : Addr} (h : PySem.W.mroIn K C (.type "str") = some false) : PySem.W.kitOne K (.ref C) (.type "str") = some false := by
  unfold PySem.W.kitOne
  have e : (Value.ref C == Value.type "str") = false := rfl
  rw [e, if_neg Bool.false_ne_true]
  show (if PySem.W.kitMeta "str" = true then PySem.W.subIn K (.ref C) (.type "str") else none) = _
  rw [if_pos (by decide)]
  unfold PySem.W.subIn
  exact h

theorem all_mk {l : PySem.W.OpenLaw} {w : World} {K : PySem.W.Frag} {h : Heap} {mg : Str → Option Value} {fa C CP CM fI fi fC fS fP fM : Addr} {tD tL tM tG : Tok} {nL nN : Tok} {xD xL xM xG : Str} (X : K.In h) (G : h.Ns mainGlobals mg) (hfa : mg "law" = some (.ref fa))
    {f0 : Addr} {od0 an0 : Option Addr} {sl0 : Array (Option Value)} {oc0 kV0 dc0 pm0 cd0 ct0 : Value}
    {f1 : Addr} {od1 an1 : Option Addr} {sl1 : Array (Option Value)} {oc1 kV1 dc1 pm1 cd1 ct1 : Value}
    {f2 : Addr} {od2 an2 : Option Addr} {sl2 : Array (Option Value)} {oc2 kV2 dc2 pm2 cd2 ct2 : Value}
    {f3 : Addr} {od3 an3 : Option Addr} {sl3 : Array (Option Value)} {oc3 kV3 dc3 pm3 cd3 ct3 : Value}
    {f4 : Addr} {od4 an4 : Option Addr} {sl4 : Array (Option Value)} {oc4 kV4 dc4 pm4 cd4 ct4 : Value}
    {f5 : Addr} {od5 an5 : Option Addr} {sl5 : Array (Option Value)} {oc5 kV5 dc5 pm5 cd5 ct5 : Value}
    {f6 : Addr} {od6 an6 : Option Addr} {sl6 : Array (Option Value)} {oc6 kV6 dc6 pm6 cd6 ct6 : Value}
    {f7 : Addr} {od7 an7 : Option Addr} {sl7 : Array (Option Value)} {oc7 kV7 dc7 pm7 cd7 ct7 : Value}
    {f8 : Addr} {od8 an8 : Option Addr} {sl8 : Array (Option Value)} {oc8 kV8 dc8 pm8 cd8 ct8 : Value}
    {f9 : Addr} {od9 an9 : Option Addr} {sl9 : Array (Option Value)} {oc9 kV9 dc9 pm9 cd9 ct9 : Value}
    {f10 : Addr} {od10 an10 : Option Addr} {sl10 : Array (Option Value)} {oc10 kV10 dc10 pm10 cd10 ct10 : Value}
    {f11 : Addr} {od11 an11 : Option Addr} {sl11 : Array (Option Value)} {oc11 kV11 dc11 pm11 cd11 ct11 : Value}
    {f12 : Addr} {od12 an12 : Option Addr} {sl12 : Array (Option Value)} {oc12 kV12 dc12 pm12 cd12 ct12 : Value}
    {f13 : Addr} {od13 an13 : Option Addr} {sl13 : Array (Option Value)} {oc13 kV13 dc13 pm13 cd13 ct13 : Value}
    {f14 : Addr} {od14 an14 : Option Addr} {sl14 : Array (Option Value)} {oc14 kV14 dc14 pm14 cd14 ct14 : Value}
    {f15 : Addr} {od15 an15 : Option Addr} {sl15 : Array (Option Value)} {oc15 kV15 dc15 pm15 cd15 ct15 : Value}
    {f16 : Addr} {od16 an16 : Option Addr} {sl16 : Array (Option Value)} {oc16 kV16 dc16 pm16 cd16 ct16 : Value}
    {f17 : Addr} {od17 an17 : Option Addr} {sl17 : Array (Option Value)} {oc17 kV17 dc17 pm17 cd17 ct17 : Value}
    {f18 : Addr} {od18 an18 : Option Addr} {sl18 : Array (Option Value)} {oc18 kV18 dc18 pm18 cd18 ct18 : Value}
    {f19 : Addr} {od19 an19 : Option Addr} {sl19 : Array (Option Value)} {oc19 kV19 dc19 pm19 cd19 ct19 : Value}
    {f20 : Addr} {od20 an20 : Option Addr} {sl20 : Array (Option Value)} {oc20 kV20 dc20 pm20 cd20 ct20 : Value}
    {f21 : Addr} {od21 an21 : Option Addr} {sl21 : Array (Option Value)} {oc21 kV21 dc21 pm21 cd21 ct21 : Value}
    {f22 : Addr} {od22 an22 : Option Addr} {sl22 : Array (Option Value)} {oc22 kV22 dc22 pm22 cd22 ct22 : Value}
    {f23 : Addr} {od23 an23 : Option Addr} {sl23 : Array (Option Value)} {oc23 kV23 dc23 pm23 cd23 ct23 : Value}
    {f24 : Addr} {od24 an24 : Option Addr} {sl24 : Array (Option Value)} {oc24 kV24 dc24 pm24 cd24 ct24 : Value}
    {f25 : Addr} {od25 an25 : Option Addr} {sl25 : Array (Option Value)} {oc25 kV25 dc25 pm25 cd25 ct25 : Value}
    {f26 : Addr} {od26 an26 : Option Addr} {sl26 : Array (Option Value)} {oc26 kV26 dc26 pm26 cd26 ct26 : Value}
    {f27 : Addr} {od27 an27 : Option Addr} {sl27 : Array (Option Value)} {oc27 kV27 dc27 pm27 cd27 ct27 : Value}
    {f28 : Addr} {od28 an28 : Option Addr} {sl28 : Array (Option Value)} {oc28 kV28 dc28 pm28 cd28 ct28 : Value}
    {f29 : Addr} {od29 an29 : Option Addr} {sl29 : Array (Option Value)} {oc29 kV29 dc29 pm29 cd29 ct29 : Value}
    {f30 : Addr} {od30 an30 : Option Addr} {sl30 : Array (Option Value)} {oc30 kV30 dc30 pm30 cd30 ct30 : Value}
    {f31 : Addr} {od31 an31 : Option Addr} {sl31 : Array (Option Value)} {oc31 kV31 dc31 pm31 cd31 ct31 : Value}
    {f32 : Addr} {od32 an32 : Option Addr} {sl32 : Array (Option Value)} {oc32 kV32 dc32 pm32 cd32 ct32 : Value}
    {f33 : Addr} {od33 an33 : Option Addr} {sl33 : Array (Option Value)} {oc33 kV33 dc33 pm33 cd33 ct33 : Value}
    {f34 : Addr} {od34 an34 : Option Addr} {sl34 : Array (Option Value)} {oc34 kV34 dc34 pm34 cd34 ct34 : Value}
    {f35 : Addr} {od35 an35 : Option Addr} {sl35 : Array (Option Value)} {oc35 kV35 dc35 pm35 cd35 ct35 : Value}
    {f36 : Addr} {od36 an36 : Option Addr} {sl36 : Array (Option Value)} {oc36 kV36 dc36 pm36 cd36 ct36 : Value}
    {f37 : Addr} {od37 an37 : Option Addr} {sl37 : Array (Option Value)} {oc37 kV37 dc37 pm37 cd37 ct37 : Value}
    {f38 : Addr} {od38 an38 : Option Addr} {sl38 : Array (Option Value)} {oc38 kV38 dc38 pm38 cd38 ct38 : Value}
    {f39 : Addr} {od39 an39 : Option Addr} {sl39 : Array (Option Value)} {oc39 kV39 dc39 pm39 cd39 ct39 : Value}
    {f40 : Addr} {od40 an40 : Option Addr} {sl40 : Array (Option Value)} {oc40 kV40 dc40 pm40 cd40 ct40 : Value}
    {f41 : Addr} {od41 an41 : Option Addr} {sl41 : Array (Option Value)} {oc41 kV41 dc41 pm41 cd41 ct41 : Value}
    {f42 : Addr} {od42 an42 : Option Addr} {sl42 : Array (Option Value)} {oc42 kV42 dc42 pm42 cd42 ct42 : Value}
    {f43 : Addr} {od43 an43 : Option Addr} {sl43 : Array (Option Value)} {oc43 kV43 dc43 pm43 cd43 ct43 : Value}
    {f44 : Addr} {od44 an44 : Option Addr} {sl44 : Array (Option Value)} {oc44 kV44 dc44 pm44 cd44 ct44 : Value}
    {f45 : Addr} {od45 an45 : Option Addr} {sl45 : Array (Option Value)} {oc45 kV45 dc45 pm45 cd45 ct45 : Value}
    {f46 : Addr} {od46 an46 : Option Addr} {sl46 : Array (Option Value)} {oc46 kV46 dc46 pm46 cd46 ct46 : Value}
    {f47 : Addr} {od47 an47 : Option Addr} {sl47 : Array (Option Value)} {oc47 kV47 dc47 pm47 cd47 ct47 : Value}
    {odI anI : Option Addr} {slI : Array (Option Value)} {ocI kVI dcI pmI cdI ctI : Value}
    {odJ anJ : Option Addr} {slJ : Array (Option Value)} {ocJ kVJ dcJ pmJ cdJ ctJ : Value}
    {odN anN : Option Addr} {slN : Array (Option Value)} {ocN kVN dcN pmN cdN ctN : Value}
    {odS anS : Option Addr} {slS : Array (Option Value)} {ocS kVS dcS pmS cdS ctS : Value}
    {odP anP : Option Addr} {slP : Array (Option Value)} {ocP kVP dcP pmP cdP ctP : Value}
    {odM anM : Option Addr} {slM : Array (Option Value)} {ocM kVM dcM pmM cdM ctM : Value}
    (a0 : PySem.W.nsIn K mainGlobals "is_layer" = some (some (.ref f0))) (l0 : K.lookup f0 = some ⟨oc0, od0, .func (PySem.W.fnOf "is_layer" "is_layer" (defArgs s_is_layer) (defBody s_is_layer) (defScope s_is_layer) .none kV0 dc0 pm0 an0 cd0 ct0), sl0⟩) (c0 : PySem.W.codeIn K cd0 "is_layer" = true) (k0 : PySem.W.keepIn K (.ref f0) = true)
    (a1 : PySem.W.nsIn K mainGlobals "cells_of" = some (some (.ref f1))) (l1 : K.lookup f1 = some ⟨oc1, od1, .func (PySem.W.fnOf "cells_of" "cells_of" (defArgs s_cells_of) (defBody s_cells_of) (defScope s_cells_of) .none kV1 dc1 pm1 an1 cd1 ct1), sl1⟩) (c1 : PySem.W.codeIn K cd1 "cells_of" = true) (k1 : PySem.W.keepIn K (.ref f1) = true)
    (a2 : PySem.W.nsIn K mainGlobals "agree" = some (some (.ref f2))) (l2 : K.lookup f2 = some ⟨oc2, od2, .func (PySem.W.fnOf "agree" "agree" (defArgs s_agree) (defBody s_agree) (defScope s_agree) .none kV2 dc2 pm2 an2 cd2 ct2), sl2⟩) (c2 : PySem.W.codeIn K cd2 "agree" = true) (k2 : PySem.W.keepIn K (.ref f2) = true)
    (a3 : PySem.W.nsIn K mainGlobals "peeled" = some (some (.ref f3))) (l3 : K.lookup f3 = some ⟨oc3, od3, .func (PySem.W.fnOf "peeled" "peeled" (defArgs s_peeled) (defBody s_peeled) (defScope s_peeled) .none kV3 dc3 pm3 an3 cd3 ct3), sl3⟩) (c3 : PySem.W.codeIn K cd3 "peeled" = true) (k3 : PySem.W.keepIn K (.ref f3) = true)
    (a4 : PySem.W.nsIn K mainGlobals "first_to_peel" = some (some (.ref f4))) (l4 : K.lookup f4 = some ⟨oc4, od4, .func (PySem.W.fnOf "first_to_peel" "first_to_peel" (defArgs s_first_to_peel) (defBody s_first_to_peel) (defScope s_first_to_peel) .none kV4 dc4 pm4 an4 cd4 ct4), sl4⟩) (c4 : PySem.W.codeIn K cd4 "first_to_peel" = true) (k4 : PySem.W.keepIn K (.ref f4) = true)
    (a5 : PySem.W.nsIn K mainGlobals "peeling" = some (some (.ref f5))) (l5 : K.lookup f5 = some ⟨oc5, od5, .func (PySem.W.fnOf "peeling" "peeling" (defArgs s_peeling) (defBody s_peeling) (defScope s_peeling) .none kV5 dc5 pm5 an5 cd5 ct5), sl5⟩) (c5 : PySem.W.codeIn K cd5 "peeling" = true) (k5 : PySem.W.keepIn K (.ref f5) = true)
    (a6 : PySem.W.nsIn K mainGlobals "differs_at" = some (some (.ref f6))) (l6 : K.lookup f6 = some ⟨oc6, od6, .func (PySem.W.fnOf "differs_at" "differs_at" (defArgs s_differs_at) (defBody s_differs_at) (defScope s_differs_at) .none kV6 dc6 pm6 an6 cd6 ct6), sl6⟩) (c6 : PySem.W.codeIn K cd6 "differs_at" = true) (k6 : PySem.W.keepIn K (.ref f6) = true)
    (a7 : PySem.W.nsIn K mainGlobals "covers_any" = some (some (.ref f7))) (l7 : K.lookup f7 = some ⟨oc7, od7, .func (PySem.W.fnOf "covers_any" "covers_any" (defArgs s_covers_any) (defBody s_covers_any) (defScope s_covers_any) .none kV7 dc7 pm7 an7 cd7 ct7), sl7⟩) (c7 : PySem.W.codeIn K cd7 "covers_any" = true) (k7 : PySem.W.keepIn K (.ref f7) = true)
    (a8 : PySem.W.nsIn K mainGlobals "is_fast" = some (some (.ref f8))) (l8 : K.lookup f8 = some ⟨oc8, od8, .func (PySem.W.fnOf "is_fast" "is_fast" (defArgs s_is_fast) (defBody s_is_fast) (defScope s_is_fast) .none kV8 dc8 pm8 an8 cd8 ct8), sl8⟩) (c8 : PySem.W.codeIn K cd8 "is_fast" = true) (k8 : PySem.W.keepIn K (.ref f8) = true)
    (a9 : PySem.W.nsIn K mainGlobals "as_tuples" = some (some (.ref f9))) (l9 : K.lookup f9 = some ⟨oc9, od9, .func (PySem.W.fnOf "as_tuples" "as_tuples" (defArgs s_as_tuples) (defBody s_as_tuples) (defScope s_as_tuples) .none kV9 dc9 pm9 an9 cd9 ct9), sl9⟩) (c9 : PySem.W.codeIn K cd9 "as_tuples" = true) (k9 : PySem.W.keepIn K (.ref f9) = true)
    (a10 : PySem.W.nsIn K mainGlobals "is_name" = some (some (.ref f10))) (l10 : K.lookup f10 = some ⟨oc10, od10, .func (PySem.W.fnOf "is_name" "is_name" (defArgs s_is_name) (defBody s_is_name) (defScope s_is_name) .none kV10 dc10 pm10 an10 cd10 ct10), sl10⟩) (c10 : PySem.W.codeIn K cd10 "is_name" = true) (k10 : PySem.W.keepIn K (.ref f10) = true)
    (a11 : PySem.W.nsIn K mainGlobals "is_stamp" = some (some (.ref f11))) (l11 : K.lookup f11 = some ⟨oc11, od11, .func (PySem.W.fnOf "is_stamp" "is_stamp" (defArgs s_is_stamp) (defBody s_is_stamp) (defScope s_is_stamp) .none kV11 dc11 pm11 an11 cd11 ct11), sl11⟩) (c11 : PySem.W.codeIn K cd11 "is_stamp" = true) (k11 : PySem.W.keepIn K (.ref f11) = true)
    (a12 : PySem.W.nsIn K mainGlobals "check_pairs" = some (some (.ref f12))) (l12 : K.lookup f12 = some ⟨oc12, od12, .func (PySem.W.fnOf "check_pairs" "check_pairs" (defArgs s_check_pairs) (defBody s_check_pairs) (defScope s_check_pairs) .none kV12 dc12 pm12 an12 cd12 ct12), sl12⟩) (c12 : PySem.W.codeIn K cd12 "check_pairs" = true) (k12 : PySem.W.keepIn K (.ref f12) = true)
    (a13 : PySem.W.nsIn K mainGlobals "marks_differ" = some (some (.ref f13))) (l13 : K.lookup f13 = some ⟨oc13, od13, .func (PySem.W.fnOf "marks_differ" "marks_differ" (defArgs s_marks_differ) (defBody s_marks_differ) (defScope s_marks_differ) .none kV13 dc13 pm13 an13 cd13 ct13), sl13⟩) (c13 : PySem.W.codeIn K cd13 "marks_differ" = true) (k13 : PySem.W.keepIn K (.ref f13) = true)
    (a14 : PySem.W.nsIn K mainGlobals "making" = some (some (.ref f14))) (l14 : K.lookup f14 = some ⟨oc14, od14, .func (PySem.W.fnOf "making" "making" (defArgs s_making) (defBody s_making) (defScope s_making) .none kV14 dc14 pm14 an14 cd14 ct14), sl14⟩) (c14 : PySem.W.codeIn K cd14 "making" = true) (k14 : PySem.W.keepIn K (.ref f14) = true)
    (a15 : PySem.W.nsIn K mainGlobals "is_refusal" = some (some (.ref f15))) (l15 : K.lookup f15 = some ⟨oc15, od15, .func (PySem.W.fnOf "is_refusal" "is_refusal" (defArgs s_is_refusal) (defBody s_is_refusal) (defScope s_is_refusal) .none kV15 dc15 pm15 an15 cd15 ct15), sl15⟩) (c15 : PySem.W.codeIn K cd15 "is_refusal" = true) (k15 : PySem.W.keepIn K (.ref f15) = true)
    (a16 : PySem.W.nsIn K mainGlobals "_law_whole" = some (some (.ref f16))) (l16 : K.lookup f16 = some ⟨oc16, od16, .func (PySem.W.fnOf "_law_whole" "_law_whole" (defArgs s__law_whole) (defBody s__law_whole) (defScope s__law_whole) .none kV16 dc16 pm16 an16 cd16 ct16), sl16⟩) (c16 : PySem.W.codeIn K cd16 "_law_whole" = true) (k16 : PySem.W.keepIn K (.ref f16) = true)
    (a17 : PySem.W.nsIn K mainGlobals "_law_cell" = some (some (.ref f17))) (l17 : K.lookup f17 = some ⟨oc17, od17, .func (PySem.W.fnOf "_law_cell" "_law_cell" (defArgs s__law_cell) (defBody s__law_cell) (defScope s__law_cell) .none kV17 dc17 pm17 an17 cd17 ct17), sl17⟩) (c17 : PySem.W.codeIn K cd17 "_law_cell" = true) (k17 : PySem.W.keepIn K (.ref f17) = true)
    (a18 : PySem.W.nsIn K mainGlobals "_law_digits" = some (some (.ref f18))) (l18 : K.lookup f18 = some ⟨oc18, od18, .func (PySem.W.fnOf "_law_digits" "_law_digits" (defArgs s__law_digits) (defBody s__law_digits) (defScope s__law_digits) .none kV18 dc18 pm18 an18 cd18 ct18), sl18⟩) (c18 : PySem.W.codeIn K cd18 "_law_digits" = true) (k18 : PySem.W.keepIn K (.ref f18) = true)
    (a19 : PySem.W.nsIn K mainGlobals "_law_inks" = some (some (.ref f19))) (l19 : K.lookup f19 = some ⟨oc19, od19, .func (PySem.W.fnOf "_law_inks" "_law_inks" (defArgs s__law_inks) (defBody s__law_inks) (defScope s__law_inks) .none kV19 dc19 pm19 an19 cd19 ct19), sl19⟩) (c19 : PySem.W.codeIn K cd19 "_law_inks" = true) (k19 : PySem.W.keepIn K (.ref f19) = true)
    (a20 : PySem.W.nsIn K mainGlobals "_law_names" = some (some (.ref f20))) (l20 : K.lookup f20 = some ⟨oc20, od20, .func (PySem.W.fnOf "_law_names" "_law_names" (defArgs s__law_names) (defBody s__law_names) (defScope s__law_names) .none kV20 dc20 pm20 an20 cd20 ct20), sl20⟩) (c20 : PySem.W.codeIn K cd20 "_law_names" = true) (k20 : PySem.W.keepIn K (.ref f20) = true)
    (a21 : PySem.W.nsIn K mainGlobals "_law_text" = some (some (.ref f21))) (l21 : K.lookup f21 = some ⟨oc21, od21, .func (PySem.W.fnOf "_law_text" "_law_text" (defArgs s__law_text) (defBody s__law_text) (defScope s__law_text) .none kV21 dc21 pm21 an21 cd21 ct21), sl21⟩) (c21 : PySem.W.codeIn K cd21 "_law_text" = true) (k21 : PySem.W.keepIn K (.ref f21) = true)
    (a22 : PySem.W.nsIn K mainGlobals "_law_lot" = some (some (.ref f22))) (l22 : K.lookup f22 = some ⟨oc22, od22, .func (PySem.W.fnOf "_law_lot" "_law_lot" (defArgs s__law_lot) (defBody s__law_lot) (defScope s__law_lot) .none kV22 dc22 pm22 an22 cd22 ct22), sl22⟩) (c22 : PySem.W.codeIn K cd22 "_law_lot" = true) (k22 : PySem.W.keepIn K (.ref f22) = true)
    (a23 : PySem.W.nsIn K mainGlobals "_law_press" = some (some (.ref f23))) (l23 : K.lookup f23 = some ⟨oc23, od23, .func (PySem.W.fnOf "_law_press" "_law_press" (defArgs s__law_press) (defBody s__law_press) (defScope s__law_press) .none kV23 dc23 pm23 an23 cd23 ct23), sl23⟩) (c23 : PySem.W.codeIn K cd23 "_law_press" = true) (k23 : PySem.W.keepIn K (.ref f23) = true)
    (a24 : PySem.W.nsIn K mainGlobals "_law_agree" = some (some (.ref f24))) (l24 : K.lookup f24 = some ⟨oc24, od24, .func (PySem.W.fnOf "_law_agree" "_law_agree" (defArgs s__law_agree) (defBody s__law_agree) (defScope s__law_agree) .none kV24 dc24 pm24 an24 cd24 ct24), sl24⟩) (c24 : PySem.W.codeIn K cd24 "_law_agree" = true) (k24 : PySem.W.keepIn K (.ref f24) = true)
    (a25 : PySem.W.nsIn K mainGlobals "_law_free" = some (some (.ref f25))) (l25 : K.lookup f25 = some ⟨oc25, od25, .func (PySem.W.fnOf "_law_free" "_law_free" (defArgs s__law_free) (defBody s__law_free) (defScope s__law_free) .none kV25 dc25 pm25 an25 cd25 ct25), sl25⟩) (c25 : PySem.W.codeIn K cd25 "_law_free" = true) (k25 : PySem.W.keepIn K (.ref f25) = true)
    (a26 : PySem.W.nsIn K mainGlobals "_law_numbers" = some (some (.ref f26))) (l26 : K.lookup f26 = some ⟨oc26, od26, .func (PySem.W.fnOf "_law_numbers" "_law_numbers" (defArgs s__law_numbers) (defBody s__law_numbers) (defScope s__law_numbers) .none kV26 dc26 pm26 an26 cd26 ct26), sl26⟩) (c26 : PySem.W.codeIn K cd26 "_law_numbers" = true) (k26 : PySem.W.keepIn K (.ref f26) = true)
    (a27 : PySem.W.nsIn K mainGlobals "_law_sheet" = some (some (.ref f27))) (l27 : K.lookup f27 = some ⟨oc27, od27, .func (PySem.W.fnOf "_law_sheet" "_law_sheet" (defArgs s__law_sheet) (defBody s__law_sheet) (defScope s__law_sheet) .none kV27 dc27 pm27 an27 cd27 ct27), sl27⟩) (c27 : PySem.W.codeIn K cd27 "_law_sheet" = true) (k27 : PySem.W.keepIn K (.ref f27) = true)
    (a28 : PySem.W.nsIn K mainGlobals "_law_dashed" = some (some (.ref f28))) (l28 : K.lookup f28 = some ⟨oc28, od28, .func (PySem.W.fnOf "_law_dashed" "_law_dashed" (defArgs s__law_dashed) (defBody s__law_dashed) (defScope s__law_dashed) .none kV28 dc28 pm28 an28 cd28 ct28), sl28⟩) (c28 : PySem.W.codeIn K cd28 "_law_dashed" = true) (k28 : PySem.W.keepIn K (.ref f28) = true)
    (a29 : PySem.W.nsIn K mainGlobals "_law_scene" = some (some (.ref f29))) (l29 : K.lookup f29 = some ⟨oc29, od29, .func (PySem.W.fnOf "_law_scene" "_law_scene" (defArgs s__law_scene) (defBody s__law_scene) (defScope s__law_scene) .none kV29 dc29 pm29 an29 cd29 ct29), sl29⟩) (c29 : PySem.W.codeIn K cd29 "_law_scene" = true) (k29 : PySem.W.keepIn K (.ref f29) = true)
    (a30 : PySem.W.nsIn K mainGlobals "_law_chain" = some (some (.ref f30))) (l30 : K.lookup f30 = some ⟨oc30, od30, .func (PySem.W.fnOf "_law_chain" "_law_chain" (defArgs s__law_chain) (defBody s__law_chain) (defScope s__law_chain) .none kV30 dc30 pm30 an30 cd30 ct30), sl30⟩) (c30 : PySem.W.codeIn K cd30 "_law_chain" = true) (k30 : PySem.W.keepIn K (.ref f30) = true)
    (a31 : PySem.W.nsIn K mainGlobals "_law_layer_of" = some (some (.ref f31))) (l31 : K.lookup f31 = some ⟨oc31, od31, .func (PySem.W.fnOf "_law_layer_of" "_law_layer_of" (defArgs s__law_layer_of) (defBody s__law_layer_of) (defScope s__law_layer_of) .none kV31 dc31 pm31 an31 cd31 ct31), sl31⟩) (c31 : PySem.W.codeIn K cd31 "_law_layer_of" = true) (k31 : PySem.W.keepIn K (.ref f31) = true)
    (a32 : PySem.W.nsIn K mainGlobals "_law_fits" = some (some (.ref f32))) (l32 : K.lookup f32 = some ⟨oc32, od32, .func (PySem.W.fnOf "_law_fits" "_law_fits" (defArgs s__law_fits) (defBody s__law_fits) (defScope s__law_fits) .none kV32 dc32 pm32 an32 cd32 ct32), sl32⟩) (c32 : PySem.W.codeIn K cd32 "_law_fits" = true) (k32 : PySem.W.keepIn K (.ref f32) = true)
    (a33 : PySem.W.nsIn K mainGlobals "_law_fast" = some (some (.ref f33))) (l33 : K.lookup f33 = some ⟨oc33, od33, .func (PySem.W.fnOf "_law_fast" "_law_fast" (defArgs s__law_fast) (defBody s__law_fast) (defScope s__law_fast) .none kV33 dc33 pm33 an33 cd33 ct33), sl33⟩) (c33 : PySem.W.codeIn K cd33 "_law_fast" = true) (k33 : PySem.W.keepIn K (.ref f33) = true)
    (a34 : PySem.W.nsIn K mainGlobals "_law_subsets" = some (some (.ref f34))) (l34 : K.lookup f34 = some ⟨oc34, od34, .func (PySem.W.fnOf "_law_subsets" "_law_subsets" (defArgs s__law_subsets) (defBody s__law_subsets) (defScope s__law_subsets) .none kV34 dc34 pm34 an34 cd34 ct34), sl34⟩) (c34 : PySem.W.codeIn K cd34 "_law_subsets" = true) (k34 : PySem.W.keepIn K (.ref f34) = true)
    (a35 : PySem.W.nsIn K mainGlobals "_law_first" = some (some (.ref f35))) (l35 : K.lookup f35 = some ⟨oc35, od35, .func (PySem.W.fnOf "_law_first" "_law_first" (defArgs s__law_first) (defBody s__law_first) (defScope s__law_first) .none kV35 dc35 pm35 an35 cd35 ct35), sl35⟩) (c35 : PySem.W.codeIn K cd35 "_law_first" = true) (k35 : PySem.W.keepIn K (.ref f35) = true)
    (a36 : PySem.W.nsIn K mainGlobals "_law_peel" = some (some (.ref f36))) (l36 : K.lookup f36 = some ⟨oc36, od36, .func (PySem.W.fnOf "_law_peel" "_law_peel" (defArgs s__law_peel) (defBody s__law_peel) (defScope s__law_peel) .none kV36 dc36 pm36 an36 cd36 ct36), sl36⟩) (c36 : PySem.W.codeIn K cd36 "_law_peel" = true) (k36 : PySem.W.keepIn K (.ref f36) = true)
    (a37 : PySem.W.nsIn K mainGlobals "_law_pressed" = some (some (.ref f37))) (l37 : K.lookup f37 = some ⟨oc37, od37, .func (PySem.W.fnOf "_law_pressed" "_law_pressed" (defArgs s__law_pressed) (defBody s__law_pressed) (defScope s__law_pressed) .none kV37 dc37 pm37 an37 cd37 ct37), sl37⟩) (c37 : PySem.W.codeIn K cd37 "_law_pressed" = true) (k37 : PySem.W.keepIn K (.ref f37) = true)
    (a38 : PySem.W.nsIn K mainGlobals "_law_ground" = some (some (.ref f38))) (l38 : K.lookup f38 = some ⟨oc38, od38, .func (PySem.W.fnOf "_law_ground" "_law_ground" (defArgs s__law_ground) (defBody s__law_ground) (defScope s__law_ground) .none kV38 dc38 pm38 an38 cd38 ct38), sl38⟩) (c38 : PySem.W.codeIn K cd38 "_law_ground" = true) (k38 : PySem.W.keepIn K (.ref f38) = true)
    (a39 : PySem.W.nsIn K mainGlobals "_law_leads" = some (some (.ref f39))) (l39 : K.lookup f39 = some ⟨oc39, od39, .func (PySem.W.fnOf "_law_leads" "_law_leads" (defArgs s__law_leads) (defBody s__law_leads) (defScope s__law_leads) .none kV39 dc39 pm39 an39 cd39 ct39), sl39⟩) (c39 : PySem.W.codeIn K cd39 "_law_leads" = true) (k39 : PySem.W.keepIn K (.ref f39) = true)
    (a40 : PySem.W.nsIn K mainGlobals "_law_barred" = some (some (.ref f40))) (l40 : K.lookup f40 = some ⟨oc40, od40, .func (PySem.W.fnOf "_law_barred" "_law_barred" (defArgs s__law_barred) (defBody s__law_barred) (defScope s__law_barred) .none kV40 dc40 pm40 an40 cd40 ct40), sl40⟩) (c40 : PySem.W.codeIn K cd40 "_law_barred" = true) (k40 : PySem.W.keepIn K (.ref f40) = true)
    (a41 : PySem.W.nsIn K mainGlobals "_law_shows" = some (some (.ref f41))) (l41 : K.lookup f41 = some ⟨oc41, od41, .func (PySem.W.fnOf "_law_shows" "_law_shows" (defArgs s__law_shows) (defBody s__law_shows) (defScope s__law_shows) .none kV41 dc41 pm41 an41 cd41 ct41), sl41⟩) (c41 : PySem.W.codeIn K cd41 "_law_shows" = true) (k41 : PySem.W.keepIn K (.ref f41) = true)
    (a42 : PySem.W.nsIn K mainGlobals "_law_bars" = some (some (.ref f42))) (l42 : K.lookup f42 = some ⟨oc42, od42, .func (PySem.W.fnOf "_law_bars" "_law_bars" (defArgs s__law_bars) (defBody s__law_bars) (defScope s__law_bars) .none kV42 dc42 pm42 an42 cd42 ct42), sl42⟩) (c42 : PySem.W.codeIn K cd42 "_law_bars" = true) (k42 : PySem.W.keepIn K (.ref f42) = true)
    (a43 : PySem.W.nsIn K mainGlobals "_law_tried" = some (some (.ref f43))) (l43 : K.lookup f43 = some ⟨oc43, od43, .func (PySem.W.fnOf "_law_tried" "_law_tried" (defArgs s__law_tried) (defBody s__law_tried) (defScope s__law_tried) .none kV43 dc43 pm43 an43 cd43 ct43), sl43⟩) (c43 : PySem.W.codeIn K cd43 "_law_tried" = true) (k43 : PySem.W.keepIn K (.ref f43) = true)
    (a44 : PySem.W.nsIn K mainGlobals "_law_judged" = some (some (.ref f44))) (l44 : K.lookup f44 = some ⟨oc44, od44, .func (PySem.W.fnOf "_law_judged" "_law_judged" (defArgs s__law_judged) (defBody s__law_judged) (defScope s__law_judged) .none kV44 dc44 pm44 an44 cd44 ct44), sl44⟩) (c44 : PySem.W.codeIn K cd44 "_law_judged" = true) (k44 : PySem.W.keepIn K (.ref f44) = true)
    (a45 : PySem.W.nsIn K mainGlobals "_law_told" = some (some (.ref f45))) (l45 : K.lookup f45 = some ⟨oc45, od45, .func (PySem.W.fnOf "_law_told" "_law_told" (defArgs s__law_told) (defBody s__law_told) (defScope s__law_told) .none kV45 dc45 pm45 an45 cd45 ct45), sl45⟩) (c45 : PySem.W.codeIn K cd45 "_law_told" = true) (k45 : PySem.W.keepIn K (.ref f45) = true)
    (a46 : PySem.W.nsIn K mainGlobals "_law_drawn" = some (some (.ref f46))) (l46 : K.lookup f46 = some ⟨oc46, od46, .func (PySem.W.fnOf "_law_drawn" "_law_drawn" (defArgs s__law_drawn) (defBody s__law_drawn) (defScope s__law_drawn) .none kV46 dc46 pm46 an46 cd46 ct46), sl46⟩) (c46 : PySem.W.codeIn K cd46 "_law_drawn" = true) (k46 : PySem.W.keepIn K (.ref f46) = true)
    (a47 : PySem.W.nsIn K mainGlobals "law" = some (some (.ref f47))) (l47 : K.lookup f47 = some ⟨oc47, od47, .func (PySem.W.fnOf "law" "law" (defArgs s_law) (defBody s_law) (defScope s_law) .none kV47 dc47 pm47 an47 cd47 ct47), sl47⟩) (c47 : PySem.W.codeIn K cd47 "law" = true) (k47 : PySem.W.keepIn K (.ref f47) = true)
    (aI : PySem.W.findIn K (.ref C) "__init__" = some (some (.ref fI))) (iI : PySem.W.isFn K (.ref fI) = true) (lI : K.lookup fI = some ⟨ocI, odI, .func (PySem.W.fnOf "__init__" "Stock.__init__" (defArgs s_Stock___init__) (defBody s_Stock___init__) (defScope s_Stock___init__) .none kVI dcI pmI anI cdI ctI), slI⟩) (cI : PySem.W.codeIn K cdI "Stock.__init__" = true) (kI : PySem.W.keepIn K (.ref fI) = true)
    (aJ : PySem.W.findIn K (.ref C) "__iter__" = some (some (.ref fi))) (iJ : PySem.W.isFn K (.ref fi) = true) (lJ : K.lookup fi = some ⟨ocJ, odJ, .func (PySem.W.fnOf "__iter__" "Stock.__iter__" (defArgs s_Stock___iter__) (defBody s_Stock___iter__) (defScope s_Stock___iter__) .none kVJ dcJ pmJ anJ cdJ ctJ), slJ⟩) (cJ : PySem.W.codeIn K cdJ "Stock.__iter__" = true) (kJ : PySem.W.keepIn K (.ref fi) = true)
    (aN : PySem.W.findIn K (.ref C) "__contains__" = some (some (.ref fC))) (iN : PySem.W.isFn K (.ref fC) = true) (lN : K.lookup fC = some ⟨ocN, odN, .func (PySem.W.fnOf "__contains__" "Stock.__contains__" (defArgs s_Stock___contains__) (defBody s_Stock___contains__) (defScope s_Stock___contains__) .none kVN dcN pmN anN cdN ctN), slN⟩) (cN : PySem.W.codeIn K cdN "Stock.__contains__" = true) (kN : PySem.W.keepIn K (.ref fC) = true)
    (aS : PySem.W.findIn K (.ref C) "stamp" = some (some (.ref fS))) (iS : PySem.W.isFn K (.ref fS) = true) (lS : K.lookup fS = some ⟨ocS, odS, .func (PySem.W.fnOf "stamp" "Stock.stamp" (defArgs s_Stock_stamp) (defBody s_Stock_stamp) (defScope s_Stock_stamp) .none kVS dcS pmS anS cdS ctS), slS⟩) (cS : PySem.W.codeIn K cdS "Stock.stamp" = true) (kS : PySem.W.keepIn K (.ref fS) = true)
    (aP : PySem.W.findIn K (.ref CP) "__init__" = some (some (.ref fP))) (iP : PySem.W.isFn K (.ref fP) = true) (lP : K.lookup fP = some ⟨ocP, odP, .func (PySem.W.fnOf "__init__" "Peeling.__init__" (defArgs s_Peeling___init__) (defBody s_Peeling___init__) (defScope s_Peeling___init__) .none kVP dcP pmP anP cdP ctP), slP⟩) (cP : PySem.W.codeIn K cdP "Peeling.__init__" = true) (kP : PySem.W.keepIn K (.ref fP) = true)
    (aM : PySem.W.findIn K (.ref CM) "__init__" = some (some (.ref fM))) (iM : PySem.W.isFn K (.ref fM) = true) (lM : K.lookup fM = some ⟨ocM, odM, .func (PySem.W.fnOf "__init__" "Making.__init__" (defArgs s_Making___init__) (defBody s_Making___init__) (defScope s_Making___init__) .none kVM dcM pmM anM cdM ctM), slM⟩) (cM : PySem.W.codeIn K cdM "Making.__init__" = true) (kM : PySem.W.keepIn K (.ref fM) = true)
    (aCC : PySem.W.nsIn K mainGlobals "Stock" = some (some (.ref C))) (pgC : PySem.W.plainGet K C Str.empty = true) (hdC : PySem.W.hasDictIn K C = true) (poC : PySem.W.plainOver K C = true) (saC : PySem.W.findIn K (.ref C) "__setattr__" = some (some (.builtin "object.__setattr__"))) (mkC : PySem.W.makesIn K C = true) (kcC : PySem.W.keepIn K (.ref C) = true) (nCsize : PySem.W.findIn K (.ref C) "size" = some none) (nCstamps : PySem.W.findIn K (.ref C) "stamps" = some none) (nCstamp_of : PySem.W.findIn K (.ref C) "_stamp_of" = some none)
    (aCCP : PySem.W.nsIn K mainGlobals "Peeling" = some (some (.ref CP))) (pgCP : PySem.W.plainGet K CP Str.empty = true) (hdCP : PySem.W.hasDictIn K CP = true) (poCP : PySem.W.plainOver K CP = true) (saCP : PySem.W.findIn K (.ref CP) "__setattr__" = some (some (.builtin "object.__setattr__"))) (mkCP : PySem.W.makesIn K CP = true) (kcCP : PySem.W.keepIn K (.ref CP) = true) (nCPseen : PySem.W.findIn K (.ref CP) "seen" = some none) (nCPorder : PySem.W.findIn K (.ref CP) "order" = some none) (nCPleft : PySem.W.findIn K (.ref CP) "left" = some none)
    (aCCM : PySem.W.nsIn K mainGlobals "Making" = some (some (.ref CM))) (pgCM : PySem.W.plainGet K CM Str.empty = true) (hdCM : PySem.W.hasDictIn K CM = true) (poCM : PySem.W.plainOver K CM = true) (saCM : PySem.W.findIn K (.ref CM) "__setattr__" = some (some (.builtin "object.__setattr__"))) (mkCM : PySem.W.makesIn K CM = true) (kcCM : PySem.W.keepIn K (.ref CM) = true) (nCMmade : PySem.W.findIn K (.ref CM) "made" = some none) (nCMrow : PySem.W.findIn K (.ref CM) "row" = some none) (nCMcells : PySem.W.findIn K (.ref CM) "cells" = some none) (nCMcell : PySem.W.findIn K (.ref CM) "cell" = some none) (oFCM : PySem.W.findIn K (.ref CM) "__class__" = some (some (.builtin "object.__class__"))) (oSCM : PySem.W.specialIn K (.builtin "object.__class__") "__get__" = some (some (.builtin "getset_descriptor.__get__"))) (oTCM : PySem.W.takesIn K (.builtin "object.__class__") = some true) (oMCM : PySem.W.mroIn K CM (.type "object") = some true) (oNCM : PySem.W.mroIn K CM (.type "str") = some false)
    (gD : PySem.W.nsIn K mainGlobals "DASH" = some (some (.str xD tD))) (gL : PySem.W.nsIn K mainGlobals "LETTERS" = some (some (.str xL tL))) (gM : PySem.W.nsIn K mainGlobals "MARKS" = some (some (.str xM tM))) (gG : PySem.W.nsIn K mainGlobals "DIGITS" = some (some (.str xG tG))) (gN : PySem.W.nsIn K mainGlobals "LONGEST" = some (some (.int 30 nL))) (gO : PySem.W.nsIn K mainGlobals "LONGEST_NAME" = some (some (.int 8 nN))) (eD : xD = S [45]) (eL : xL = S letters) (eM : xM = S alls) (eG : xG = S digits)
    (z_len : PySem.W.nsIn K mainGlobals "len" = some none)
    (z_int : PySem.W.nsIn K mainGlobals "int" = some none)
    (z_bool : PySem.W.nsIn K mainGlobals "bool" = some none)
    (z_str : PySem.W.nsIn K mainGlobals "str" = some none)
    (z_tuple : PySem.W.nsIn K mainGlobals "tuple" = some none)
    (z_list : PySem.W.nsIn K mainGlobals "list" = some none)
    (z_zip : PySem.W.nsIn K mainGlobals "zip" = some none)
    (z_enumerate : PySem.W.nsIn K mainGlobals "enumerate" = some none)
    (z_range : PySem.W.nsIn K mainGlobals "range" = some none)
    (z_max : PySem.W.nsIn K mainGlobals "max" = some none)
    (z_min : PySem.W.nsIn K mainGlobals "min" = some none)
    (z_sum : PySem.W.nsIn K mainGlobals "sum" = some none)
    (z_all : PySem.W.nsIn K mainGlobals "all" = some none)
    (z_any : PySem.W.nsIn K mainGlobals "any" = some none)
    (z_isinstance : PySem.W.nsIn K mainGlobals "isinstance" = some none)
    (z_iter : PySem.W.nsIn K mainGlobals "iter" = some none)
    : ∃ fd : FuncData, (∀ (s : Shared) (v : Value), BindsTo s fd ⟨[v], []⟩ [("script", v)]) ∧ ∀ base : Heap, K.In base → base.Ns mainGlobals mg → FnOk l.prog w K mg base CX0 8 fa fd ["script"] (spLaw K) := by
  have e := hfa.symm.trans (PySem.W.mg_of X G a47)
  cases e
  subst eD
  subst eL
  subst eM
  subst eG
  have T : Txt K mg := ⟨⟨_, PySem.W.mg_of X G gD⟩, ⟨_, PySem.W.mg_of X G gL⟩, ⟨_, PySem.W.mg_of X G gM⟩, ⟨_, PySem.W.mg_of X G gN⟩, ⟨_, PySem.W.mg_of X G gG⟩, ⟨_, PySem.W.mg_of X G gO⟩, PySem.W.mg_none_of X G z_len, PySem.W.mg_none_of X G z_int, PySem.W.mg_none_of X G z_bool, PySem.W.mg_none_of X G z_str, PySem.W.mg_none_of X G z_tuple, PySem.W.mg_none_of X G z_list, PySem.W.mg_none_of X G z_zip, PySem.W.mg_none_of X G z_enumerate, PySem.W.mg_none_of X G z_range, PySem.W.mg_none_of X G z_max, PySem.W.mg_none_of X G z_min, PySem.W.mg_none_of X G z_sum, PySem.W.mg_none_of X G z_all, PySem.W.mg_none_of X G z_any, PySem.W.mg_none_of X G z_isinstance, PySem.W.mg_none_of X G z_iter⟩
  have TS : StTxt K mg C := ⟨⟨pgC, hdC, poC, saC⟩, nCsize, nCstamps, nCstamp_of, PySem.W.mg_of X G aCC⟩
  have TP : PeTxt K mg CP := ⟨⟨pgCP, hdCP, poCP, saCP⟩, nCPseen, nCPorder, nCPleft, PySem.W.mg_of X G aCCP⟩
  have TM : MkTxt K mg CM := ⟨⟨pgCM, hdCM, poCM, saCM⟩, nCMmade, nCMrow, nCMcells, nCMcell, PySem.W.mg_of X G aCCM⟩
  have OO : ObTy K CM := ⟨⟨pgCM, hdCM, poCM, saCM⟩, oFCM, oSCM, oTCM, oMCM, no_str oNCM⟩
  have F := fun_mk (st := s_law) l47 c47 k47
  have FI := fun_mk (st := s_Stock___init__) lI cI kI
  have bI := FI.binds (ps := ["self", "size", "stamps"]) fun _ _ _ _ _ _ us hl => match us, hl with | [_, _, _], _ => rfl
  have FJ := fun_mk (st := s_Stock___iter__) lJ cJ kJ
  have bJ := FJ.binds (ps := ["self"]) fun _ _ _ _ _ _ us hl => match us, hl with | [_], _ => rfl
  have FN := fun_mk (st := s_Stock___contains__) lN cN kN
  have bN := FN.binds (ps := ["self", "name"]) fun _ _ _ _ _ _ us hl => match us, hl with | [_, _], _ => rfl
  have FS := fun_mk (st := s_Stock_stamp) lS cS kS
  have bS := FS.binds (ps := ["self", "name"]) fun _ _ _ _ _ _ us hl => match us, hl with | [_, _], _ => rfl
  have FP := fun_mk (st := s_Peeling___init__) lP cP kP
  have bP := FP.binds (ps := ["self", "seen", "order", "left"]) fun _ _ _ _ _ _ us hl => match us, hl with | [_, _, _, _], _ => rfl
  have FM := fun_mk (st := s_Making___init__) lM cM kM
  have bM := FM.binds (ps := ["self", "made", "row", "cells", "cell"]) fun _ _ _ _ _ _ us hl => match us, hl with | [_, _, _, _, _], _ => rfl
  exact ⟨_, fun s v => .of_eq rfl, fun base _ _ => fn_all OO T TS TP TM F FI bI ⟨mkC, aI, iI, kcC⟩ (iter_okStock T TS FJ aJ iJ bJ) FN bN aN iN FS bS ⟨aS, iS, kS⟩ FP bP ⟨mkCP, aP, iP, kcCP⟩ FM bM ⟨mkCM, aM, iM, kcCM⟩ (at_is_layer X G a0 l0 c0 k0) (at_cells_of X G a1 l1 c1 k1) (at_agree X G a2 l2 c2 k2) (at_peeled X G a3 l3 c3 k3) (at_first_to_peel X G a4 l4 c4 k4) (at_peeling X G a5 l5 c5 k5) (at_differs_at X G a6 l6 c6 k6) (at_covers_any X G a7 l7 c7 k7) (at_is_fast X G a8 l8 c8 k8) (at_as_tuples X G a9 l9 c9 k9) (at_is_name X G a10 l10 c10 k10) (at_is_stamp X G a11 l11 c11 k11) (at_check_pairs X G a12 l12 c12 k12) (at_marks_differ X G a13 l13 c13 k13) (at_making X G a14 l14 c14 k14) (at_is_refusal X G a15 l15 c15 k15) (at__law_whole X G a16 l16 c16 k16) (at__law_cell X G a17 l17 c17 k17) (at__law_digits X G a18 l18 c18 k18) (at__law_inks X G a19 l19 c19 k19) (at__law_names X G a20 l20 c20 k20) (at__law_text X G a21 l21 c21 k21) (at__law_lot X G a22 l22 c22 k22) (at__law_press X G a23 l23 c23 k23) (at__law_agree X G a24 l24 c24 k24) (at__law_free X G a25 l25 c25 k25) (at__law_numbers X G a26 l26 c26 k26) (at__law_sheet X G a27 l27 c27 k27) (at__law_dashed X G a28 l28 c28 k28) (at__law_scene X G a29 l29 c29 k29) (at__law_chain X G a30 l30 c30 k30) (at__law_layer_of X G a31 l31 c31 k31) (at__law_fits X G a32 l32 c32 k32) (at__law_fast X G a33 l33 c33 k33) (at__law_subsets X G a34 l34 c34 k34) (at__law_first X G a35 l35 c35 k35) (at__law_peel X G a36 l36 c36 k36) (at__law_pressed X G a37 l37 c37 k37) (at__law_ground X G a38 l38 c38 k38) (at__law_leads X G a39 l39 c39 k39) (at__law_barred X G a40 l40 c40 k40) (at__law_shows X G a41 l41 c41 k41) (at__law_bars X G a42 l42 c42 k42) (at__law_tried X G a43 l43 c43 k43) (at__law_judged X G a44 l44 c44 k44) (at__law_told X G a45 l45 c45 k45) (at__law_drawn X G a46 l46 c46 k46) (atW_making X G a14 l14 c14 k14) (atW_is_refusal X G a15 l15 c15 k15)⟩
end Mi
open PySem PySem.W PyProof.Rows
set_option maxHeartbeats 0 in
theorem PySem.Challenge.cw_stampsheets_k10_making_whole_holds : PySem.Challenge.rw_stampsheets_k10_making_whole.Holds := by
  w_on; o_law; k_head; (case hw => w_witness2)
  k_fill
  refine L2.walk_of (l := PySem.Challenge.rw_stampsheets_k10_making_whole) (n := 63) (k := 8) (x := "script") (CX := fun _ => L2.CX0) (sp := fun w => Mi.spLaw _) rfl (by decide) rfl ⟨rfl, by decide, by decide⟩ (fun w h Y => PySem.W.kIn_of Y) ?F (fun _ _ a ns hl _ hS => ⟨ns, hl, .cons ⟨a, rfl, hS⟩ .nil, fun v H2 _ hv => hv⟩) (fun _ _ _ _ _ h => h)
  case F =>
    intro w mg fa h KX G hmg
    refine' Mi.all_mk KX G hmg ?a0 ?l0 ?c0 ?k0 ?a1 ?l1 ?c1 ?k1 ?a2 ?l2 ?c2 ?k2 ?a3 ?l3 ?c3 ?k3 ?a4 ?l4 ?c4 ?k4 ?a5 ?l5 ?c5 ?k5 ?a6 ?l6 ?c6 ?k6 ?a7 ?l7 ?c7 ?k7 ?a8 ?l8 ?c8 ?k8 ?a9 ?l9 ?c9 ?k9 ?a10 ?l10 ?c10 ?k10 ?a11 ?l11 ?c11 ?k11 ?a12 ?l12 ?c12 ?k12 ?a13 ?l13 ?c13 ?k13 ?a14 ?l14 ?c14 ?k14 ?a15 ?l15 ?c15 ?k15 ?a16 ?l16 ?c16 ?k16 ?a17 ?l17 ?c17 ?k17 ?a18 ?l18 ?c18 ?k18 ?a19 ?l19 ?c19 ?k19 ?a20 ?l20 ?c20 ?k20 ?a21 ?l21 ?c21 ?k21 ?a22 ?l22 ?c22 ?k22 ?a23 ?l23 ?c23 ?k23 ?a24 ?l24 ?c24 ?k24 ?a25 ?l25 ?c25 ?k25 ?a26 ?l26 ?c26 ?k26 ?a27 ?l27 ?c27 ?k27 ?a28 ?l28 ?c28 ?k28 ?a29 ?l29 ?c29 ?k29 ?a30 ?l30 ?c30 ?k30 ?a31 ?l31 ?c31 ?k31 ?a32 ?l32 ?c32 ?k32 ?a33 ?l33 ?c33 ?k33 ?a34 ?l34 ?c34 ?k34 ?a35 ?l35 ?c35 ?k35 ?a36 ?l36 ?c36 ?k36 ?a37 ?l37 ?c37 ?k37 ?a38 ?l38 ?c38 ?k38 ?a39 ?l39 ?c39 ?k39 ?a40 ?l40 ?c40 ?k40 ?a41 ?l41 ?c41 ?k41 ?a42 ?l42 ?c42 ?k42 ?a43 ?l43 ?c43 ?k43 ?a44 ?l44 ?c44 ?k44 ?a45 ?l45 ?c45 ?k45 ?a46 ?l46 ?c46 ?k46 ?a47 ?l47 ?c47 ?k47 ?aI ?iI ?lI ?cI ?kI ?aJ ?iJ ?lJ ?cJ ?kJ ?aN ?iN ?lN ?cN ?kN ?aS ?iS ?lS ?cS ?kS ?aP ?iP ?lP ?cP ?kP ?aM ?iM ?lM ?cM ?kM ?aCC ?pgC ?hdC ?poC ?saC ?mkC ?kcC ?nCsize ?nCstamps ?nCstamp_of ?aCCP ?pgCP ?hdCP ?poCP ?saCP ?mkCP ?kcCP ?nCPseen ?nCPorder ?nCPleft ?aCCM ?pgCM ?hdCM ?poCM ?saCM ?mkCM ?kcCM ?nCMmade ?nCMrow ?nCMcells ?nCMcell ?oFCM ?oSCM ?oTCM ?oMCM ?oNCM ?gD ?gL ?gM ?gG ?gN ?gO ?eD ?eL ?eM ?eG ?z_len ?z_int ?z_bool ?z_str ?z_tuple ?z_list ?z_zip ?z_enumerate ?z_range ?z_max ?z_min ?z_sum ?z_all ?z_any ?z_isinstance ?z_iter
    case aCC => k_is
    case aCCP => k_is
    case aCCM => k_is
    case a0 => k_is
    case l0 => k_is
    case c0 => k_is
    case k0 => k_is
    case a1 => k_is
    case l1 => k_is
    case c1 => k_is
    case k1 => k_is
    case a2 => k_is
    case l2 => k_is
    case c2 => k_is
    case k2 => k_is
    case a3 => k_is
    case l3 => k_is
    case c3 => k_is
    case k3 => k_is
    case a4 => k_is
    case l4 => k_is
    case c4 => k_is
    case k4 => k_is
    case a5 => k_is
    case l5 => k_is
    case c5 => k_is
    case k5 => k_is
    case a6 => k_is
    case l6 => k_is
    case c6 => k_is
    case k6 => k_is
    case a7 => k_is
    case l7 => k_is
    case c7 => k_is
    case k7 => k_is
    case a8 => k_is
    case l8 => k_is
    case c8 => k_is
    case k8 => k_is
    case a9 => k_is
    case l9 => k_is
    case c9 => k_is
    case k9 => k_is
    case a10 => k_is
    case l10 => k_is
    case c10 => k_is
    case k10 => k_is
    case a11 => k_is
    case l11 => k_is
    case c11 => k_is
    case k11 => k_is
    case a12 => k_is
    case l12 => k_is
    case c12 => k_is
    case k12 => k_is
    case a13 => k_is
    case l13 => k_is
    case c13 => k_is
    case k13 => k_is
    case a14 => k_is
    case l14 => k_is
    case c14 => k_is
    case k14 => k_is
    case a15 => k_is
    case l15 => k_is
    case c15 => k_is
    case k15 => k_is
    case a16 => k_is
    case l16 => k_is
    case c16 => k_is
    case k16 => k_is
    case a17 => k_is
    case l17 => k_is
    case c17 => k_is
    case k17 => k_is
    case a18 => k_is
    case l18 => k_is
    case c18 => k_is
    case k18 => k_is
    case a19 => k_is
    case l19 => k_is
    case c19 => k_is
    case k19 => k_is
    case a20 => k_is
    case l20 => k_is
    case c20 => k_is
    case k20 => k_is
    case a21 => k_is
    case l21 => k_is
    case c21 => k_is
    case k21 => k_is
    case a22 => k_is
    case l22 => k_is
    case c22 => k_is
    case k22 => k_is
    case a23 => k_is
    case l23 => k_is
    case c23 => k_is
    case k23 => k_is
    case a24 => k_is
    case l24 => k_is
    case c24 => k_is
    case k24 => k_is
    case a25 => k_is
    case l25 => k_is
    case c25 => k_is
    case k25 => k_is
    case a26 => k_is
    case l26 => k_is
    case c26 => k_is
    case k26 => k_is
    case a27 => k_is
    case l27 => k_is
    case c27 => k_is
    case k27 => k_is
    case a28 => k_is
    case l28 => k_is
    case c28 => k_is
    case k28 => k_is
    case a29 => k_is
    case l29 => k_is
    case c29 => k_is
    case k29 => k_is
    case a30 => k_is
    case l30 => k_is
    case c30 => k_is
    case k30 => k_is
    case a31 => k_is
    case l31 => k_is
    case c31 => k_is
    case k31 => k_is
    case a32 => k_is
    case l32 => k_is
    case c32 => k_is
    case k32 => k_is
    case a33 => k_is
    case l33 => k_is
    case c33 => k_is
    case k33 => k_is
    case a34 => k_is
    case l34 => k_is
    case c34 => k_is
    case k34 => k_is
    case a35 => k_is
    case l35 => k_is
    case c35 => k_is
    case k35 => k_is
    case a36 => k_is
    case l36 => k_is
    case c36 => k_is
    case k36 => k_is
    case a37 => k_is
    case l37 => k_is
    case c37 => k_is
    case k37 => k_is
    case a38 => k_is
    case l38 => k_is
    case c38 => k_is
    case k38 => k_is
    case a39 => k_is
    case l39 => k_is
    case c39 => k_is
    case k39 => k_is
    case a40 => k_is
    case l40 => k_is
    case c40 => k_is
    case k40 => k_is
    case a41 => k_is
    case l41 => k_is
    case c41 => k_is
    case k41 => k_is
    case a42 => k_is
    case l42 => k_is
    case c42 => k_is
    case k42 => k_is
    case a43 => k_is
    case l43 => k_is
    case c43 => k_is
    case k43 => k_is
    case a44 => k_is
    case l44 => k_is
    case c44 => k_is
    case k44 => k_is
    case a45 => k_is
    case l45 => k_is
    case c45 => k_is
    case k45 => k_is
    case a46 => k_is
    case l46 => k_is
    case c46 => k_is
    case k46 => k_is
    case a47 => k_is
    case l47 => k_is
    case c47 => k_is
    case k47 => k_is
    case aI => k_is
    case iI => k_is
    case lI => k_is
    case cI => k_is
    case kI => k_is
    case aJ => k_is
    case iJ => k_is
    case lJ => k_is
    case cJ => k_is
    case kJ => k_is
    case aN => k_is
    case iN => k_is
    case lN => k_is
    case cN => k_is
    case kN => k_is
    case aS => k_is
    case iS => k_is
    case lS => k_is
    case cS => k_is
    case kS => k_is
    case aP => k_is
    case iP => k_is
    case lP => k_is
    case cP => k_is
    case kP => k_is
    case aM => k_is
    case iM => k_is
    case lM => k_is
    case cM => k_is
    case kM => k_is
    case pgC => k_is
    case hdC => k_is
    case poC => k_is
    case saC => k_is
    case mkC => k_is
    case kcC => k_is
    case nCsize => k_is
    case nCstamps => k_is
    case nCstamp_of => k_is
    case pgCP => k_is
    case hdCP => k_is
    case poCP => k_is
    case saCP => k_is
    case mkCP => k_is
    case kcCP => k_is
    case nCPseen => k_is
    case nCPorder => k_is
    case nCPleft => k_is
    case pgCM => k_is
    case hdCM => k_is
    case poCM => k_is
    case saCM => k_is
    case mkCM => k_is
    case kcCM => k_is
    case nCMmade => k_is
    case nCMrow => k_is
    case nCMcells => k_is
    case nCMcell => k_is
    case oFCM => k_is
    case oSCM => k_is
    case oTCM => k_is
    case oMCM => k_is
    case oNCM => k_is
    case gD => k_is
    case gL => k_is
    case gM => k_is
    case gG => k_is
    case gN => k_is
    case gO => k_is
    case z_len => k_is
    case z_int => k_is
    case z_bool => k_is
    case z_str => k_is
    case z_tuple => k_is
    case z_list => k_is
    case z_zip => k_is
    case z_enumerate => k_is
    case z_range => k_is
    case z_max => k_is
    case z_min => k_is
    case z_sum => k_is
    case z_all => k_is
    case z_any => k_is
    case z_isinstance => k_is
    case z_iter => k_is
    case eD => rfl
    case eL => rfl
    case eM => rfl
    case eG => rfl

