import PyProof.Rows.All
import Wide.All
import OpenK.AllK
import Wide.FinOn
import PySem.Challenge.RW_stampsheets_k00_layers_judged
import HandS.Base
import HandS.Call
import HandS.List
import HandS.Comp
import HandS.Ends
import HandS.Dict
import HandS.Iter
import HandS.Text
import HandS.Words
import HandS.Evl
import KE.GoesNew
import PyProof.EnumMake
import HandS.ForMost
import HandS.IsInst
import HandS.Replace
import HandS.SetFor
import HandS.ReplaceList
import PyProof.StrReplace2
import HandS.Steps
import KE.KEqSeq
import KE.SortKeyHeap
import KE.KSortKey
import HandS.SortKw
import HandS.Style
import HandS.TryOnly
import HandS.Gcd
import HandS.Wide
import HandS.IterVal
import HandS.DictComp
import KE.KOwnIter
import KE.GoesMore
import HandS.DeepEq
set_option Elab.async false
set_option linter.all false
set_option maxRecDepth 100000
set_option maxHeartbeats 2000000
namespace Mi
open PySem PySem.Spec PyProof.Rows L2

/-! ### pairs that are known ahead, each in a new tuple -/
def ItP (ps : List (V × V)) : It :=
  ⟨fun i _ => i < ps.length, fun i H v H' => ∃ T x y, v = .ref T ∧ H T = none ∧ H' = upd H T (.tup [x, y]) ∧ ps[i]? = some (x, y), fun i _ => i = ps.length⟩
def YP (ps : List (V × V)) (i : Nat) (h0 : Heap) (v : Value) (h : Heap) : Prop :=
  ∃ T a b, v = .ref T ∧ h0.objs.size ≤ T ∧ (∃ x y, ps[i]? = some (x, y) ∧ RelV x a ∧ RelV y b) ∧ h.IsTuple T #[a, b]
theorem turn_pairs {P : Program} {w : World} {K : PySem.W.Frag} {tg : Expr} {I : Addr} {fp wr : List Addr} {n : Nat} {St : Nat → Heap → Prop} (ps : List (V × V)) (hn : ps.length = n)
    (mem : I ∈ fp) (obj : ∀ i h, St i h → ∀ b ∈ fp, ∃ o, h.get? b = some o ∧ ∀ v, o.data ≠ .cell v)
    (W : ∀ A : Around, A.handled = none → GoesN P w A tg I fp wr n (YP ps) St) (A0 : Around) (hA0 : A0.handled = none)
    (self : ∀ (A : Around) (i : Nat) (s : Shared) (Q : Value → Shared → Prop) (E : Value → Shared → Prop), St i s.heap → Q (.ref I) s → wpAny (model P w) A (pyIter (.ref I)) Q E s) : Turn P w K tg (ItP ps) fp I St where
  mem := mem
  obj := obj
  keep := (W A0 hA0).frame
  item := by
    intro X hP hw hK hc i pins s σ H E I hf st hg
    subst hP hw hK
    have W1 := W X.A (I.ok.hd hc)
    refine W1.goes i s _ E (by rw [← hn]; exact hg) st fun v h' tk hY st' hk htk => ?_
    obtain ⟨T, a, b, rfl, hT, ⟨x, y, hxy, ra, rb⟩, ht⟩ := hY
    have new : ObjOk X.prog X.w (upd H T (.tup [x, y])) h' T (.tup [x, y]) := ⟨by show 2 ≤ sizeLine; decide, [a, b], .cons ra (.cons rb .nil), ht⟩
    have I1 := I.turnedNew (t' := tk) (ch := fp) (fun c o hb q => hk c o (fun z => hb (W1.sub c z)) q) hf hT new
    refine ⟨.ref T, _, I1, rfl, ⟨T, x, y, rfl, I.hok.fresh hT, rfl, hxy⟩, st', fun c hcm => ?_⟩
    obtain ⟨o, ho, _⟩ := obj i _ st c hcm
    rw [upd_ne (Nat.ne_of_lt (Nat.lt_of_lt_of_le (Heap.lt_size ho) hT))]
    exact (hf c hcm).1
  done := by
    intro X hP hw hK hc i pins s σ H E I hf st hg
    subst hP hw hK
    have W1 := W X.A (I.ok.hd hc)
    have e : i = n := by rw [← hn]; exact hg
    subst e
    refine W1.stops s _ E st fun h' tk hk htk => ?_
    exact I.turnedL (t' := tk) (ch := fp) (fun c o hb q => hk c o (fun z => hb (W1.sub c z)) q) hf
  self := self

/-! ### texts, sign by sign -/
def sgn (c : Nat) : V := .str ⟨#[c]⟩
theorem text_obj {h : Heap} {a : Addr} {ty : String} {x : Str} {t : Tok} {i : Nat} (st : h.IsStrIter a ty x t i) : ∃ o, h.get? a = some o ∧ ∀ v, o.data ≠ .cell v := by
  obtain ⟨o, e, c, d⟩ := st
  exact ⟨o, e, fun v z => by rw [d] at z; cases z⟩

def zipS (x y : Str) : List (V × V) := (x.cps.toList.zip y.cps.toList).map fun p => (sgn p.1, sgn p.2)
theorem zipS_len (x y : Str) : (zipS x y).length = min x.cps.size y.cps.size := by simp [zipS]
theorem zipS_get {x y : Str} {i c d : Nat} (h1 : x.cps[i]? = some c) (h2 : y.cps[i]? = some d) : (zipS x y)[i]? = some (sgn c, sgn d) := by
  have e1 : x.cps.toList[i]? = some c := by simpa using h1
  have e2 : y.cps.toList[i]? = some d := by simpa using h2
  unfold zipS
  rw [List.getElem?_map, List.getElem?_zip_eq_some (z := (c, d)) |>.mpr ⟨e1, e2⟩]
  rfl
def iZipS (ta : TA) : TI := fun σ H R => ta σ H fun vs H1 => ∃ x y, vs = [.str x, .str y] ∧ R (ItP (zipS x y)) H1
theorem pi_zipS {X : Cx} {e e2 : Expr} {ta : TA} {p pos tpos : Pos} {elts : List Expr} {kk : Nat} (hg : Gl X "zip") (hm : X.mg "zip" = none) (ha : PA X [e, e2] ta)
    (hs : starEach [e, e2] X.env = (false, eval e X.env) :: starEach [e2] X.env := by rfl) (hpl : (backTo pos (starEach [e2] X.env)).any (·.1) = false := by rfl) (hc : X.calm = true := by rfl) :
    PI X (.Tuple elts kk tpos) (.Call (.Name "zip" p) [e, e2] [] pos) (iZipS ta) := by
  refine ⟨fun pins s σ H R I h => ?_⟩
  refine Call_ (ld_blt I hg hm PyProof.Rows.boot_zip (PyProof.Rows.callWith_type1 (thn (ha.run pos pins s σ H _ I h) fun us s1 ⟨vs, H1, I1, r1, q1⟩ => ?_) hs hpl))
  obtain ⟨x, y, ex, q⟩ := q1
  subst ex
  cases r1 with
  | cons r rr =>
    cases rr with
    | cons r' rr =>
      cases rr
      obtain ⟨t, rfl⟩ := r
      obtain ⟨u, rfl⟩ := r'
      refine zip_begins2 (begins_text x t) (begins_text y u) trivial trivial fun h' hz hTI hTO h1 h2 hsz hk => wpAny_pyIter_zip hz ?_
      have I2 : Inv X pins σ H1 { s1 with heap := h' } := I1.kept (t' := s1.toks) hk
      have i1 : h'.IsStrIter s1.heap.objs.size (strIterType x) x t 0 := ⟨_, h1, rfl, rfl⟩
      have i2 : h'.IsStrIter (s1.heap.objs.size + 1) (strIterType y) y u 0 := ⟨_, h2, rfl, rfl⟩
      refine ⟨s1.heap.objs.size + 4, [s1.heap.objs.size + 4, s1.heap.objs.size + 2, s1.heap.objs.size + 3, s1.heap.objs.size, s1.heap.objs.size + 1], _, ItP (zipS x y), H1, rfl, I2,
        turn_pairs (wr := [s1.heap.objs.size + 4, s1.heap.objs.size + 3, s1.heap.objs.size, s1.heap.objs.size + 1]) (zipS x y) (zipS_len x y) (by simp) (St := fun i h => IsZip h (s1.heap.objs.size + 4) (s1.heap.objs.size + 2) (s1.heap.objs.size + 3) .none ∧ IsTupOf2 h (s1.heap.objs.size + 2) (.ref s1.heap.objs.size) (.ref (s1.heap.objs.size + 1)) ∧ (∃ a1 a2, IsTupOf2 h (s1.heap.objs.size + 3) a1 a2) ∧ h.IsStrIter s1.heap.objs.size (strIterType x) x t i ∧ h.IsStrIter (s1.heap.objs.size + 1) (strIterType y) y u i) ?_ (fun A hA => ?_) X.A (I1.ok.hd hc) (fun A i s Q E st h => wpAny_pyIter_zip st.1 h),
        ⟨hz, hTI, ⟨_, _, hTO⟩, i1, i2⟩, fun c hcm => ?_, q⟩
      · rintro i h ⟨z1, z2, ⟨_, _, z3⟩, z4, z5⟩ b hb
        have e' : b = s1.heap.objs.size + 4 ∨ b = s1.heap.objs.size + 2 ∨ b = s1.heap.objs.size + 3 ∨ b = s1.heap.objs.size ∨ b = s1.heap.objs.size + 1 := by simpa using hb
        rcases e' with q | q | q | q | q
        · rw [q]; exact ⟨_, z1, fun v q => nomatch q⟩
        · rw [q]; exact ⟨_, z2, fun v q => nomatch q⟩
        · rw [q]; exact ⟨_, z3, fun v q => nomatch q⟩
        · rw [q]; exact text_obj z4
        · rw [q]; exact text_obj z5
      · have D1 := Draws.text (prog := X.prog) (w := X.w) (A := A.in1) hA s1.heap.objs.size x t
        have D2 := Draws.text (prog := X.prog) (w := X.w) (A := A.in1) hA (s1.heap.objs.size + 1) y u
        have S : ZipSep2 (s1.heap.objs.size + 4) (s1.heap.objs.size + 2) (s1.heap.objs.size + 3) s1.heap.objs.size (s1.heap.objs.size + 1) [s1.heap.objs.size] [s1.heap.objs.size + 1] :=
          zip_sep2 (N := s1.heap.objs.size) (fp1 := []) (fp2 := []) (fun _ h => nomatch h) (fun _ h => nomatch h)
        refine (GoesN.zip2 S D1 D2).mono fun i h0 v h _ ⟨T, a, b, ev, hT, ⟨c, u1, hc1, ea⟩, ⟨d, u2, hd1, eb⟩, ht⟩ => ⟨T, a, b, ev, hT, ⟨sgn c, sgn d, zipS_get hc1 hd1, ⟨u1, ea⟩, ⟨u2, eb⟩⟩, ht⟩
      · have e' : c = s1.heap.objs.size + 4 ∨ c = s1.heap.objs.size + 2 ∨ c = s1.heap.objs.size + 3 ∨ c = s1.heap.objs.size ∨ c = s1.heap.objs.size + 1 := by simpa using hcm
        have hle : s1.heap.objs.size ≤ c := by
          rcases e' with z | z | z | z | z
          · rw [z]; exact Nat.le_add_right _ _
          · rw [z]; exact Nat.le_add_right _ _
          · rw [z]; exact Nat.le_add_right _ _
          · rw [z]; exact Nat.le_refl _
          · rw [z]; exact Nat.le_add_right _ _
        exact I1.fpOk hle (I1.hok.fresh hle)

def enumS (x : Str) : List (V × V) := x.cps.toList.zipIdx.map fun p => (.int (p.2 : Int), sgn p.1)
theorem enumS_len (x : Str) : (enumS x).length = x.cps.size := by simp [enumS]
theorem enumS_get {x : Str} {i c : Nat} (h1 : x.cps[i]? = some c) : (enumS x)[i]? = some (.int (i : Int), sgn c) := by
  have e1 : x.cps.toList[i]? = some c := by simpa using h1
  unfold enumS
  rw [List.getElem?_map, List.getElem?_zipIdx, e1]
  simp
def iEnumS (ta : TA) : TI := fun σ H R => ta σ H fun vs H1 => ∃ x, vs = [.str x] ∧ R (ItP (enumS x)) H1
theorem pi_enumS {X : Cx} {e : Expr} {ta : TA} {p pos tpos : Pos} {elts : List Expr} {kk : Nat} (hg : Gl X "enumerate") (hm : X.mg "enumerate" = none) (ha : PA X [e] ta) (hs : starEach [e] X.env = [(false, eval e X.env)] := by rfl) (hc : X.calm = true := by rfl) :
    PI X (.Tuple elts kk tpos) (.Call (.Name "enumerate" p) [e] [] pos) (iEnumS ta) := by
  refine ⟨fun pins s σ H R I h => ?_⟩
  refine Call_ (ld_blt I hg hm boot_enumerate (PyProof.Rows.callWith_type1 (thn (ha.run pos pins s σ H _ I h) fun us s1 ⟨vs, H1, I1, r1, q1⟩ => ?_) hs rfl))
  obtain ⟨x, ex, q⟩ := q1
  subst ex
  cases r1 with
  | cons r rr =>
    cases rr
    obtain ⟨t, rfl⟩ := r
    refine call_enumerate_str fun h' he hit hsz hk => wpAny_pyIter_enum he ?_
    have I2 : Inv X pins σ H1 { s1 with heap := h' } := I1.kept (t' := s1.toks) hk
    refine ⟨s1.heap.objs.size + 1, [s1.heap.objs.size + 1, s1.heap.objs.size], _, ItP (enumS x), H1, rfl, I2,
      turn_pairs (wr := [s1.heap.objs.size + 1, s1.heap.objs.size]) (enumS x) (enumS_len x) (by simp) (St := fun i h => (∃ old, IsEnum h (s1.heap.objs.size + 1) s1.heap.objs.size (0 + (i : Int)) old) ∧ h.IsStrIter s1.heap.objs.size (strIterType x) x t i) ?_ (fun A hA => ?_) X.A (I1.ok.hd hc) (fun A i s Q E st h => let ⟨⟨_, he⟩, _⟩ := st; wpAny_pyIter_enum he h), ⟨⟨.none, he⟩, hit⟩, fun c hcm => ?_, q⟩
    · rintro i h ⟨⟨_, z1⟩, z2⟩ b hb
      have e' : b = s1.heap.objs.size + 1 ∨ b = s1.heap.objs.size := by simpa using hb
      rcases e' with q | q
      · rw [q]; exact ⟨_, z1, fun v q => nomatch q⟩
      · rw [q]; exact text_obj z2
    · have D1 := Draws.text (prog := X.prog) (w := X.w) (A := A.in1) hA s1.heap.objs.size x t
      refine (GoesN.enumFrom 0 D1 (s1.heap.objs.size + 1) (Nat.succ_ne_self _) (by simp) (by simp)).mono fun i h0 v h _ ⟨T, u, b, ev, hT, ⟨c, u1, hc1, eb⟩, ht⟩ => ⟨T, _, b, ev, hT, ⟨.int (i : Int), sgn c, enumS_get hc1, ⟨u, by rw [Int.zero_add]⟩, ⟨u1, eb⟩⟩, ht⟩
    · have e' : c = s1.heap.objs.size + 1 ∨ c = s1.heap.objs.size := by simpa using hcm
      have hle : s1.heap.objs.size ≤ c := by
        rcases e' with z | z
        · rw [z]; exact Nat.le_add_right _ _
        · rw [z]; exact Nat.le_refl _
      exact I1.fpOk hle (I1.hok.fresh hle)
end Mi

set_option maxHeartbeats 2000000
namespace Mi
open PySem PySem.Spec PyProof.Rows L2 Evl

/-! ### a def of the text that keeps its promise, as its callers see it -/
structure Has (P : Program) (w : World) (K : PySem.W.Frag) (mg : Str → Option Value) (base : Heap) (k : Nat) (x : Str) (ps : List Str) (sp : Sp) : Prop where
  ex : ∃ f fd, mg x = some (.ref f) ∧ PySem.W.keepIn K (.ref f) = true ∧ FnOk P w K mg base CX0 k f fd ps sp ∧ Binds K fd ps [] ∧
    (ps.length = 1 → ∀ (s : Shared) (w1 : Value), BindsTo s fd ⟨[], ps.zip [w1]⟩ (ps.zip [w1])) ∧
    (∀ p q, ps = [p, q] → ∀ (s : Shared) (w1 w2 : Value), BindsTo s fd ⟨[], [q, p].zip [w1, w2]⟩ ([p, q].zip [w2, w1]))
section
variable {X : Cx} {k : Nat} {ps : List Str} {sp : Sp} {E : XK} {x : Str} {p pos : Pos} {e : Expr} {es : List Expr} {t : TA}
theorem pe_callH (F : Has X.prog X.w X.K X.mg X.base k x ps sp) (hr : Room k X.A) (ha : PA X (e :: es) t) (hg : Gl X x := by rfl) (hdb : (x == ("__debug__" : Str)) = false := by decide)
    (he : starEach (e :: es) X.env = (false, eval e X.env) :: starEach es X.env := by rfl) (hpl : (backTo pos (starEach es X.env)).any (·.1) = false := by rfl) :
    PE X (.Call (.Name x p) (e :: es) [] pos) (tCall sp [] E0 t) := by
  obtain ⟨f, fd, hm, hk, F, hb, _⟩ := F.ex
  exact pe_call F hr hg hm hk hb .nil pass0 ha hdb he hpl
/-- f(q=.., p=..): both parameters by name, in the other order; f(p=..) -/
def tCall2 (sp : Sp) (t1 t2 : TE) : TE := fun σ H Q => tCons t1 (tCons t2 tNil) σ H fun vs H2 => ∃ v1 v2, vs = [v1, v2] ∧ sp [v2, v1] H2 Q E0
theorem pe_callH2 {a b : Str} {e1 e2 : Expr} {t1 t2 : TE} {k1 k2 : Pos} (F : Has X.prog X.w X.K X.mg X.base k x [a, b] sp) (hr : Room k X.A) (h1 : PE X e1 t1) (h2 : PE X e2 t2) (hg : Gl X x := by rfl) (hdb : (x == ("__debug__" : Str)) = false := by decide)
    (hall : (backToKw pos (keywordEach [⟨some b, e1, k1⟩, ⟨some a, e2, k2⟩] X.env)).all (·.1.isSome) = true := by rfl)
    (hks : (backToKw pos (keywordEach [⟨some b, e1, k1⟩, ⟨some a, e2, k2⟩] X.env)).filterMap (·.1) = [b, a] := by rfl)
    (hpl : (backToKw pos (keywordEach [⟨some b, e1, k1⟩, ⟨some a, e2, k2⟩] X.env)).any (·.1.isNone) = false := by rfl) :
    PE X (.Call (.Name x p) [] [⟨some b, e1, k1⟩, ⟨some a, e2, k2⟩] pos) (tCall2 sp t1 t2) := by
  obtain ⟨f, fd, hm, hk, F, _, _, hb2⟩ := F.ex
  have hkw : PK X [⟨some b, e1, k1⟩, ⟨some a, e2, k2⟩] (tCons t1 (tCons t2 tNil)) := pk_cons h1 (pk_cons h2 pk_nil)
  refine ⟨fun pins s σ H Q I h => ?_⟩
  refine wpAny_Call_Name_kw (ld_glob I hg hm ?_ hdb)
  refine PySem.W.callWith_KW0 (h₀ := X.base) I.ok.mod.kin hk hall (thn (hkw.run pos pins s σ H _ I h) fun ws s2 ⟨zs, H2, I2, rz, v1, v2, ez, q2⟩ => ⟨I2.kIn, ?_⟩) hpl
  rw [hks]
  subst ez
  obtain ⟨w1, w2, rfl, r1, r2⟩ := vals2 rz
  refine wpAny_call (codeAny_mono (F.run X.A X.stack s2 H2 ⟨[], [b, a].zip [w1, w2]⟩ [w2, w1] [v2, v1] Q E0 hr I2.env0 (hb2 a b rfl s2 w1 w2) (.cons r2 (.cons r1 .nil)) q2) fun r s' hq => ?_)
  cases r with
  | error e => exact pass0 pins σ H2 s2 e s' I2 hq
  | ok fl =>
    cases fl with
    | ret u => exact I2.after hq
    | next => exact False.elim hq
    | brk => exact False.elim hq
    | cont => exact False.elim hq
def tCall1 (sp : Sp) (t1 : TE) : TE := fun σ H Q => tCons t1 tNil σ H fun vs H2 => ∃ v1, vs = [v1] ∧ sp [v1] H2 Q E0
theorem pe_callH1 {a : Str} {e1 : Expr} {t1 : TE} {k1 : Pos} (F : Has X.prog X.w X.K X.mg X.base k x [a] sp) (hr : Room k X.A) (h1 : PE X e1 t1) (hg : Gl X x := by rfl) (hdb : (x == ("__debug__" : Str)) = false := by decide)
    (hall : (backToKw pos (keywordEach [⟨some a, e1, k1⟩] X.env)).all (·.1.isSome) = true := by rfl)
    (hks : (backToKw pos (keywordEach [⟨some a, e1, k1⟩] X.env)).filterMap (·.1) = [a] := by rfl)
    (hpl : (backToKw pos (keywordEach [⟨some a, e1, k1⟩] X.env)).any (·.1.isNone) = false := by rfl) :
    PE X (.Call (.Name x p) [] [⟨some a, e1, k1⟩] pos) (tCall1 sp t1) := by
  obtain ⟨f, fd, hm, hk, F, _, hb1, _⟩ := F.ex
  have hkw : PK X [⟨some a, e1, k1⟩] (tCons t1 tNil) := pk_cons h1 pk_nil
  refine ⟨fun pins s σ H Q I h => ?_⟩
  refine wpAny_Call_Name_kw (ld_glob I hg hm ?_ hdb)
  refine PySem.W.callWith_KW0 (h₀ := X.base) I.ok.mod.kin hk hall (thn (hkw.run pos pins s σ H _ I h) fun ws s2 ⟨zs, H2, I2, rz, v1, ez, q2⟩ => ⟨I2.kIn, ?_⟩) hpl
  rw [hks]
  subst ez
  obtain ⟨w1, rfl, r1⟩ := vals1 rz
  refine wpAny_call (codeAny_mono (F.run X.A X.stack s2 H2 ⟨[], [a].zip [w1]⟩ [w1] [v1] Q E0 hr I2.env0 (hb1 rfl s2 w1) (.cons r1 .nil) q2) fun r s' hq => ?_)
  cases r with
  | error e => exact pass0 pins σ H2 s2 e s' I2 hq
  | ok fl =>
    cases fl with
    | ret u => exact I2.after hq
    | next => exact False.elim hq
    | brk => exact False.elim hq
    | cont => exact False.elim hq
end

/-! ### text * int -/
def reps (x : Str) (n : Nat) : Str := ⟨((List.replicate n x.cps.toList).flatten).toArray⟩
theorem reps_toList (x : Str) (n : Nat) : (reps x n).cps.toList = (List.replicate n x.cps.toList).flatten := rfl
theorem reps_len (x : Str) (n : Nat) : (reps x n).length = n * x.length := by
  show ((List.replicate n x.cps.toList).flatten).toArray.size = n * x.cps.size
  simp
theorem str_ext {x y : Str} (h : x.cps.toList = y.cps.toList) : x = y := by
  cases x; cases y
  simp only [Str.mk.injEq]
  exact Array.toList_inj.mp h
theorem foldl_reps (x : Array Nat) : ∀ (n : Nat) (acc : Array Nat), ((List.replicate n x).foldl (· ++ ·) acc).toList = acc.toList ++ (List.replicate n x.toList).flatten
  | 0, acc => by simp
  | n + 1, acc => by
    rw [List.replicate_succ, List.foldl_cons, foldl_reps x n (acc ++ x), List.replicate_succ, List.flatten_cons]
    simp
def rMulS : R2 := fun x y H Q => ∃ (z : Str) (n : Nat), x = .str z ∧ y = .int (n : Int) ∧ n ≤ 1000 ∧ z.length ≤ 1000 ∧ Q (.str (reps z n)) H
theorem op_mulS {X : Cx} : OpR X (binaryOp .Mult) rMulS := by
  intro pins s σ H x y v u Q I rx ry h
  obtain ⟨z, n, rfl, rfl, hn, hz, q⟩ := h
  obtain ⟨t, rfl⟩ := rx
  obtain ⟨t', rfl⟩ := ry
  have fin : ∀ (w : Str) (tk : Tok) (k : Nat), w = reps z n → EP X pins σ Q (.str w tk) { s with toks := k } := fun w tk k e => ⟨.str (reps z n), H, I.tok _, ⟨tk, by rw [e]⟩, q⟩
  refine PySem.P.mul_str ?_ (fun h1 h2 => ?_) (fun h1 h2 => ?_) ?_
  · rw [decide_eq_false (by omega), decide_eq_false (by omega)]; rfl
  · have : (1000 : Int) ≤ (2 ^ 63 - 1) / (n : Int) := by
      have h3 : (0 : Int) < n := by omega
      refine (Int.le_ediv_iff_mul_le h3).mpr ?_
      omega
    omega
  · unfold PySem.Builtin.Str.tooLong sizeLine
    have : z.length * (n : Int).toNat ≤ 1000 * 1000 := Nat.mul_le_mul hz (by omega)
    exact decide_eq_false (by omega)
  · by_cases h1 : (n : Int) < 1
    · rw [if_pos h1]
      have e : n = 0 := by omega
      subst e
      exact ⟨by decide, fin _ _ _ (str_ext (by rw [reps_toList]; rfl))⟩
    · rw [if_neg h1]
      by_cases h2 : (((n : Int) == 1 || z.length == 0) = true)
      · rw [if_pos h2]
        refine ⟨.str (reps z n), H, I, ⟨t, ?_⟩, q⟩
        congr 1
        refine str_ext ?_
        rw [reps_toList]
        simp only [Bool.or_eq_true, beq_iff_eq] at h2
        rcases h2 with h2 | h2
        · have e : n = 1 := by omega
          subst e
          simp
        · have e : z.cps.toList = [] := by
            have h3 : z.cps.size = 0 := h2
            simpa using h3
          rw [e]
          simp
      · rw [if_neg h2]
        have e : (⟨(List.replicate (n : Int).toNat z.cps).foldl (· ++ ·) #[]⟩ : Str) = reps z n := str_ext (by
          rw [reps_toList]
          have := foldl_reps z.cps n #[]
          simpa using this)
        refine ⟨?_, fin _ _ _ e⟩
        rw [e]
        have h3 := reps_len z n
        have h4 : n * z.length ≤ 1000 * 1000 := Nat.mul_le_mul hn hz
        rw [sizeLine_eq]
        omega

/-! ### text.replace(A, B), A and B names of the module that hold two texts -/
def tRepG (to : TE) (y z : Str) : TE := fun σ H Q => to σ H fun v H1 => ∃ x, v = .str x ∧ x.length + (x.length + 1) * z.length ≤ 16777216 ∧ Q (.str (Txt.replace x y z)) H1
theorem pe_repG {X : Cx} {o : Expr} {to : TE} {a b y z : Str} {u v : Tok} {pa pb apos pos : Pos} (ho : PE X o to) (ma : X.mg a = some (.str y u)) (mb : X.mg b = some (.str z v)) (hu : u ≠ 0) (hv : v ≠ 0) (huv : u ≠ v) (hyz : (y == z) = false)
    (ga : Gl X a := by rfl) (gb : Gl X b := by rfl) (da : (a == ("__debug__" : Str)) = false := by decide) (db : (b == ("__debug__" : Str)) = false := by decide)
    (hst : starEach [.Name a pa, .Name b pb] X.env = [(false, eval (.Name a pa) X.env), (false, eval (.Name b pb) X.env)] := by rfl)
    (hbase : attributeBase o "replace" X.env (eval o X.env) = eval o X.env := by rfl) (hline : (apos.endLine == pos.line) = true := by rfl) :
    PE X (.Call (.Attribute o "replace" apos) [.Name a pa, .Name b pb] [] pos) (tRepG to y z) := by
  refine ⟨fun pins s σ H Q I h => ?_⟩
  refine PySem.Call_method2 hbase hst hline (thn (ho.run pins s σ H _ I h) fun v' s1 q => ?_)
  obtain ⟨v', H1, I1, r1, x, e1, hb, q⟩ := q
  subst e1
  obtain ⟨tx, e2⟩ := r1
  subst e2
  refine ⟨"str", _, PySem.F.plainAttrs_str, PySem.F.slot_str_replace, PySem.F.type_str_replace, typeIs_str _ _ _, (fun _ e => nomatch e), Calls.callWith_builtin rfl (Calls.evalArgs_plain (Calls.spliced_cons ?_))⟩
  refine ld_glob I1 ga ma (Calls.spliced_cons (ld_glob I1 gb mb (Calls.spliced_nil ?_) db)) da
  exact PySem.SC.replace hu hv huv hyz hb fun t' k => ⟨.str (Txt.replace x y z), H1, I1.tok k, ⟨t', rfl⟩, q⟩
theorem replL_one (a b : Nat) : ∀ l : List Nat, StrLaws.replL [a] [b] l = l.map fun c => if c = a then b else c
  | [] => StrLaws.replL_nil
  | c :: r => by
    by_cases h : c = a
    · subst h
      rw [StrLaws.replL_hit (by simp) (by simp)]
      show [b] ++ StrLaws.replL [c] [b] r = _
      rw [replL_one c b r]
      simp
    · rw [StrLaws.replL_miss (by simpa using h), replL_one a b r]
      simp [h]

/-! ### texts.count(text) -/
def rCntS (K : PySem.W.Frag) : V → List V → Hp → VK → Prop := fun x xs H Q => ∃ (p : Addr) (ys : List Str) (z : Str), x = .ref p ∧ xs = [.str z] ∧ SqL K H p (ys.map V.str) ∧ Q (.int (ys.count z : Nat)) H
def eqs (z : Str) : Value → Bool
  | .str y _ => y == z
  | _ => false
theorem eqs_count (z : Str) : ∀ {ys : List Str} {its : List Value}, Vals (ys.map V.str) its → its.countP (eqs z) = ys.count z
  | [], _, .nil => rfl
  | y :: ys, _, .cons q t => by
    obtain ⟨tk, rfl⟩ := q
    rw [List.countP_cons, List.count_cons, eqs_count z t]
    rfl
theorem eqs_at (z : Str) (t : Tok) (A : Around) (s : Shared) : ∀ {ys : List Str} {its : List Value}, Vals (ys.map V.str) its → ∀ y ∈ its, SeqAt.EqAt A s y (.str z t) (eqs z y)
  | [], _, .nil, _, h => nomatch h
  | x :: ys, _, .cons q r, y, h => by
    rcases List.mem_cons.mp h with e | h
    · subst e
      obtain ⟨tk, rfl⟩ := q
      exact SeqAt.EqAt.str_str x tk z t
    · exact eqs_at z t A s r y h
theorem mt_scount {X : Cx} : MtR X "list.count" (rCntS X.K) := by
  intro pins s σ H x xs v us Q I rx rxs h
  obtain ⟨p, ys, z, rfl, rfl, hs, q⟩ := h
  cases rx
  obtain ⟨u, rfl, ru⟩ := rxs.one
  obtain ⟨t, rfl⟩ := ru
  obtain ⟨its, rv, ⟨⟨cls, dd, data, sl⟩, n, ho, hc, hdn, hd⟩, hlen⟩ := I.list hs
  simp only at hc hd
  subst hc hd
  refine call_meets PySem.F.slot_list_count ⟨_, ho, rfl⟩ PySem.F.entry_list_count (PySem.F.args_list_count_2 _ _)
    (SeqAt.list_countAt p its.toArray n dd sl (.str z t) (eqs z)) ⟨ho, fun y hy => eqs_at z t _ _ rv y (by simpa using hy), ?_⟩
  have ec : its.toArray.toList.countP (eqs z) = ys.count z := eqs_count z rv
  refine ⟨.int (ys.count z : Nat), H, I.tok _, ⟨s.toks, ?_⟩, q⟩
  show Value.int ((its.toArray.toList.countP (eqs z) : Nat) : Int) s.toks = Value.int ((ys.count z : Nat) : Int) s.toks
  rw [ec]
end Mi

set_option maxHeartbeats 2000000
namespace Mi
open PySem PySem.Spec PyProof.Rows L2 Evl

/-! ### what a value is: a flat one, a list that is read, a tracked list, a tuple -/
structure MP where
  p : Hp → V → Prop
  m : ∀ {H H' : Hp} {x : V}, Ex H H' → p H x → p H' x
inductive Dd where
  | D
  | P (q : MP)
  | v (x : V)
  | l (xs : List V)
  | n (xs : List V)
  | u (xs : List V)
  | L (ds : List Dd)
  | N (ds : List Dd)
  | U (ds : List Dd)
mutual
def Is (K : PySem.W.Frag) (H : Hp) : Dd → V → Prop
  | .D, y => ∃ p kvs, y = .ref p ∧ H p = some (.dK kvs)
  | .P q, y => q.p H y
  | .v x, y => y = x
  | .l xs, y => ∃ p, y = .ref p ∧ SqL K H p xs
  | .n xs, y => ∃ p, y = .ref p ∧ H p = some (.lst xs)
  | .u xs, y => ∃ p, y = .ref p ∧ SqT K H p xs
  | .L ds, y => ∃ p vs, y = .ref p ∧ SqL K H p vs ∧ IsE K H ds vs
  | .N ds, y => ∃ p vs, y = .ref p ∧ H p = some (.lst vs) ∧ IsE K H ds vs
  | .U ds, y => ∃ p vs, y = .ref p ∧ SqT K H p vs ∧ IsE K H ds vs
def IsE (K : PySem.W.Frag) (H : Hp) : List Dd → List V → Prop
  | [], vs => vs = []
  | d :: ds, vs => ∃ x r, vs = x :: r ∧ Is K H d x ∧ IsE K H ds r
end
abbrev Dd.i (i : Int) : Dd := .v (.int i)
abbrev Dd.s (x : Str) : Dd := .v (.str x)
abbrev Dd.b (b : Bool) : Dd := .v (.bl b)
abbrev vis (ns : List Int) : List V := ns.map V.int
abbrev vss (ys : List Str) : List V := ys.map V.str
section
variable {K : PySem.W.Frag} {H H' : Hp} {d : Dd} {x y : V}
mutual
theorem Is.mono (e : Ex H H') : ∀ {d : Dd} {x : V}, Is K H d x → Is K H' d x
  | .D, _, h => by obtain ⟨p, kvs, e1, q⟩ := h; exact ⟨p, kvs, e1, e p _ q⟩
  | .P q, _, h => q.m e h
  | .v _, _, h => h
  | .l _, _, h => by obtain ⟨p, e1, q⟩ := h; exact ⟨p, e1, ex_l e q⟩
  | .n _, _, h => by obtain ⟨p, e1, q⟩ := h; exact ⟨p, e1, e p _ q⟩
  | .u _, _, h => by obtain ⟨p, e1, q⟩ := h; exact ⟨p, e1, ex_t e q⟩
  | .L _, _, h => by obtain ⟨p, vs, e1, q, r⟩ := h; exact ⟨p, vs, e1, ex_l e q, IsE.mono e r⟩
  | .N _, _, h => by obtain ⟨p, vs, e1, q, r⟩ := h; exact ⟨p, vs, e1, e p _ q, IsE.mono e r⟩
  | .U _, _, h => by obtain ⟨p, vs, e1, q, r⟩ := h; exact ⟨p, vs, e1, ex_t e q, IsE.mono e r⟩
theorem IsE.mono (e : Ex H H') : ∀ {ds : List Dd} {vs : List V}, IsE K H ds vs → IsE K H' ds vs
  | [], _, h => h
  | _ :: _, _, h => by obtain ⟨x, r, e1, a, b⟩ := h; exact ⟨x, r, e1, Is.mono e a, IsE.mono e b⟩
end
theorem Is.n2l {xs : List V} (h : Is K H (.n xs) x) : Is K H (.l xs) x := by
  obtain ⟨p, e1, q⟩ := h; exact ⟨p, e1, sq_of q⟩
end
def IsAll (K : PySem.W.Frag) (H : Hp) (ds : List Dd) (vs : List V) : Prop := Paired (fun d v => Is K H d v) ds vs

/-! ### what evaluates to what -/
def Er (K : PySem.W.Frag) (te : TE) (σ : L2.St) (H : Hp) (d : Dd) : Prop := ∀ H1, Ex H H1 → ∀ Q : VK, (∀ v H2, Ex H1 H2 → Is K H2 d v → Q v H2) → te σ H1 Q
def Era (K : PySem.W.Frag) (ta : TA) (σ : L2.St) (H : Hp) (ds : List Dd) : Prop := ∀ H1, Ex H H1 → ∀ Q : List V → Hp → Prop, (∀ vs H2, Ex H1 H2 → IsAll K H2 ds vs → Q vs H2) → ta σ H1 Q
def Ro (K : PySem.W.Frag) (r : R2) (d1 d2 d : Dd) : Prop := ∀ x y H1, Is K H1 d1 x → Is K H1 d2 y → ∀ Q : VK, (∀ v H2, Ex H1 H2 → Is K H2 d v → Q v H2) → r x y H1 Q
def Rc (K : PySem.W.Frag) (r : List V → Hp → VK → Prop) (ds : List Dd) (d : Dd) : Prop := ∀ vs H1, IsAll K H1 ds vs → ∀ Q : VK, (∀ v H2, Ex H1 H2 → Is K H2 d v → Q v H2) → r vs H1 Q
section
variable {K : PySem.W.Frag} {σ : L2.St} {H H' : Hp} {te ta tb tc : TE} {t u : TT} {tr : TA} {d d1 d2 d' : Dd} {x y : V} {r : R2}
theorem IsAll.mono (e : Ex H H') : ∀ {ds : List Dd} {vs : List V}, IsAll K H ds vs → IsAll K H' ds vs
  | _, _, .nil => .nil
  | _, _, .cons a b => .cons (a.mono e) (IsAll.mono e b)
theorem Er.mono (e : Ex H H') (h : Er K te σ H d) : Er K te σ H' d := fun H1 a Q q => h H1 (e.trans a) Q q
theorem Er.to (h : Er K te σ H d) (e : d = d') : Er K te σ H d' := e ▸ h
theorem Er.n2l {xs : List V} (h : Er K te σ H (.n xs)) : Er K te σ H (.l xs) := fun H1 a Q q => h H1 a Q fun v H2 e z => q v H2 e z.n2l
theorem er_var {i : Nat} (h : σ[i]? = some (some x)) (hd : Is K H d x) : Er K (tVar i) σ H d := fun H1 e _ q => ⟨x, h, q x H1 (Ex.refl H1) (hd.mono e)⟩
theorem er_v {i : Nat} (h : σ[i]? = some (some x)) : Er K (tVar i) σ H (.v x) := er_var h rfl
theorem er_c : Er K (tC x) σ H (.v x) := fun H1 _ _ q => q x H1 (Ex.refl H1) rfl
theorem er_op (ha : Er K ta σ H d1) (hb : Er K tb σ H d2) (hr : Ro K r d1 d2 d) : Er K (tOp r ta tb) σ H d := fun H1 e Q q =>
  ha H1 e _ fun v1 H2 e2 z1 => hb H2 (e.trans e2) _ fun v2 H3 e3 z2 => hr v1 v2 H3 (z1.mono e3) z2 Q fun v H4 e4 z => q v H4 ((e2.trans e3).trans e4) z
theorem era_nil : Era K tNil σ H [] := fun H1 _ _ q => q [] H1 (Ex.refl H1) .nil
theorem era_cons {ds : List Dd} (h : Er K ta σ H d) (hr : Era K tr σ H ds) : Era K (tCons ta tr) σ H (d :: ds) := fun H1 e _ q =>
  h H1 e _ fun v1 H2 e2 z1 => hr H2 (e.trans e2) _ fun vs H3 e3 z2 => q _ H3 (e2.trans e3) (.cons (z1.mono e3) z2)
theorem er_cb {rc : List V → Hp → VK → Prop} {ds : List Dd} (h : Era K tr σ H ds) (hr : Rc K rc ds d) : Er K (tCB rc tr) σ H d := fun H1 e Q q =>
  h H1 e _ fun vs H2 e2 z => hr vs H2 z Q fun v H3 e3 z3 => q v H3 (e2.trans e3) z3
theorem flat_all {vs : List V} {ws : List V} (h : IsAll K H (vs.map Dd.v) ws) : ws = vs := by
  induction vs generalizing ws with
  | nil => cases h; rfl
  | cons a r ih =>
    cases h with
    | cons h1 h2 =>
      rw [ih h2]
      have e : _ = a := h1
      rw [e]
theorem er_lst {vs : List V} (h : Era K tr σ H (vs.map Dd.v)) (hl : vs.length ≤ 100000) : Er K (tLst tr) σ H (.n vs) := fun H1 e _ q =>
  h H1 e _ fun ws H2 e2 z => by
    have ew := flat_all z
    subst ew
    exact ⟨sz_of hl, fun p hp => q _ _ (e2.trans (Ex.new hp)) ⟨p, rfl, upd_same⟩⟩
theorem er_tup {vs : List V} (h : Era K tr σ H (vs.map Dd.v)) (hl : vs.length ≤ 100000) : Er K (tTup tr) σ H (.u vs) := fun H1 e _ q =>
  h H1 e _ fun ws H2 e2 z => by
    have ew := flat_all z
    subst ew
    exact ⟨sz_of hl, fun p hp => q _ _ (e2.trans (Ex.new hp)) ⟨p, rfl, st_of upd_same⟩⟩

/-! ### operators -/
theorem ro_I0 {g : Int → Int → V} {i j : Int} : Ro K (rI0 g) (.v (.int i)) (.v (.int j)) (.v (g i j)) := by
  rintro _ _ H1 rfl rfl Q q
  exact ⟨i, j, rfl, rfl, q _ H1 (Ex.refl H1) rfl⟩
theorem ro_I {C : Int → Int → Prop} {g : Int → Int → V} {i j : Int} (hc : C i j) : Ro K (rI C g) (.v (.int i)) (.v (.int j)) (.v (g i j)) := by
  rintro _ _ H1 rfl rfl Q q
  exact ⟨i, j, rfl, rfl, hc, q _ H1 (Ex.refl H1) rfl⟩
theorem ro_eq (h : scal x y = true) : Ro K rEq (.v x) (.v y) (.v (.bl (decide (x = y)))) := by
  rintro _ _ H1 rfl rfl Q q
  exact ⟨h, q _ H1 (Ex.refl H1) rfl⟩
theorem ro_ne (h : scal x y = true) : Ro K rNe (.v x) (.v y) (.v (.bl (!decide (x = y)))) := by
  rintro _ _ H1 rfl rfl Q q
  exact ⟨h, q _ H1 (Ex.refl H1) rfl⟩
theorem ro_ixL {xs : List V} {i : Int} (h0 : 0 ≤ i) (h : xs[i.toNat]? = some x) : Ro K (rIxL K) (.l xs) (.v (.int i)) (.v x) := by
  rintro _ _ H1 ⟨p, rfl, hp⟩ rfl Q q
  have e : ((i.toNat : Nat) : Int) = i := Int.toNat_of_nonneg h0
  exact ⟨p, xs, i, x, rfl, rfl, hp, by rw [← e]; exact atI_nat h, q _ H1 (Ex.refl H1) rfl⟩
theorem ro_ixN {xs : List V} {i : Int} (h0 : 0 ≤ i) (h : xs[i.toNat]? = some x) : Ro K (rIxL K) (.n xs) (.v (.int i)) (.v x) := fun v w H1 a b => ro_ixL h0 h v w H1 a.n2l b
theorem ro_ixT {xs : List V} {i : Int} (h0 : 0 ≤ i) (h : xs[i.toNat]? = some x) : Ro K (rIxT K) (.u xs) (.v (.int i)) (.v x) := by
  rintro _ _ H1 ⟨p, rfl, hp⟩ rfl Q q
  have e : ((i.toNat : Nat) : Int) = i := Int.toNat_of_nonneg h0
  exact ⟨p, xs, i, x, rfl, rfl, hp, by rw [← e]; exact atI_nat h, q _ H1 (Ex.refl H1) rfl⟩
theorem ro_ixS {z : Str} {i : Int} {c : Nat} (hz : z.length ≤ 100000) (h0 : 0 ≤ i) (h : z.cps.toList[i.toNat]? = some c) : Ro K rIxS (.v (.str z)) (.v (.int i)) (.v (sgn c)) := by
  rintro _ _ H1 rfl rfl Q q
  have e : ((i.toNat : Nat) : Int) = i := Int.toNat_of_nonneg h0
  exact ⟨z, i, c, rfl, rfl, sz_of hz, by rw [← e]; exact atI_nat h, q _ H1 (Ex.refl H1) rfl⟩
def rAddS2 : R2 := fun x y H Q => ∃ i j, x = .str i ∧ y = .str j ∧ i.length + j.length ≤ sizeLine ∧ Q (.str (i ++ j)) H
theorem op_addS {X : Cx} : OpR X (binaryOp .Add) rAddS2 := op_add_str
theorem ro_addS {a b : Str} (h : a.length + b.length ≤ 100000) : Ro K rAddS2 (.v (.str a)) (.v (.str b)) (.v (.str (a ++ b))) := by
  rintro _ _ H1 rfl rfl Q q
  exact ⟨a, b, rfl, rfl, sz_of h, q _ H1 (Ex.refl H1) rfl⟩
theorem ro_mulS {a : Str} {n : Nat} (hn : n ≤ 1000) (ha : a.length ≤ 1000) : Ro K rMulS (.v (.str a)) (.v (.int (n : Int))) (.v (.str (reps a n))) := by
  rintro _ _ H1 rfl rfl Q q
  exact ⟨a, n, rfl, rfl, hn, ha, q _ H1 (Ex.refl H1) rfl⟩
theorem ro_cat {xs zs : List V} (h : xs.length + zs.length ≤ 100000) : Ro K rCat (.n xs) (.n zs) (.n (xs ++ zs)) := by
  rintro _ _ H1 ⟨p, rfl, hp⟩ ⟨p', rfl, hp'⟩ Q q
  exact ⟨p, p', xs, zs, rfl, rfl, hp, hp', sz_of h, fun l hl => q _ _ (Ex.new hl) ⟨l, rfl, upd_same⟩⟩
theorem ro_rep {xs : List V} {k : Nat} (h : xs.length * k ≤ 100000) (hk : k ≤ 100000) : Ro K rRep (.n xs) (.v (.int (k : Int))) (.n (List.replicate k xs).flatten) := by
  rintro _ _ H1 ⟨p, rfl, hp⟩ rfl Q q
  exact ⟨p, k, xs, rfl, rfl, hp, by omega, by omega, by rw [Int.toNat_natCast]; exact sz_of h, fun l hl => q _ _ (Ex.new hl) ⟨l, rfl, by rw [Int.toNat_natCast]; exact upd_same⟩⟩
theorem ro_inL {neg : Bool} {xs : List V} (hx : flatV x = true) (ha : xs.all flatV = true) : Ro K (rIn K neg) (.v x) (.l xs) (.v (.bl (if neg then !inV x xs else inV x xs))) := by
  rintro _ _ H1 rfl ⟨p, rfl, hp⟩ Q q
  exact ⟨p, xs, rfl, .inl hp, hx, ha, q _ H1 (Ex.refl H1) rfl⟩
theorem ro_inN {neg : Bool} {xs : List V} (hx : flatV x = true) (ha : xs.all flatV = true) : Ro K (rIn K neg) (.v x) (.n xs) (.v (.bl (if neg then !inV x xs else inV x xs))) := fun v w H1 a b => ro_inL hx ha v w H1 a b.n2l
theorem ro_inU {neg : Bool} {xs : List V} (hx : flatV x = true) (ha : xs.all flatV = true) : Ro K (rIn K neg) (.v x) (.u xs) (.v (.bl (if neg then !inV x xs else inV x xs))) := by
  rintro _ _ H1 rfl ⟨p, rfl, hp⟩ Q q
  exact ⟨p, xs, rfl, .inr hp, hx, ha, q _ H1 (Ex.refl H1) rfl⟩
theorem ro_inS {c : Nat} {z : Str} : Ro K rInS (.v (sgn c)) (.v (.str z)) (.v (.bl (decide (c ∈ z.cps.toList)))) := by
  rintro _ _ H1 rfl rfl Q q
  exact ⟨c, z, rfl, rfl, q _ H1 (Ex.refl H1) rfl⟩
theorem ro_niS {c : Nat} {z : Str} : Ro K rNotInS (.v (sgn c)) (.v (.str z)) (.v (.bl (!decide (c ∈ z.cps.toList)))) := by
  rintro _ _ H1 rfl rfl Q q
  exact ⟨c, z, rfl, rfl, q _ H1 (Ex.refl H1) rfl⟩
theorem ro_isN : Ro K rIsN (.v x) (.v .non) (.v (.bl (decide (x = .non)))) := by
  rintro _ _ H1 rfl rfl Q q
  exact ⟨rfl, q _ H1 (Ex.refl H1) rfl⟩
theorem ro_notN : Ro K rNotN (.v x) (.v .non) (.v (.bl (!decide (x = .non)))) := by
  rintro _ _ H1 rfl rfl Q q
  exact ⟨rfl, q _ H1 (Ex.refl H1) rfl⟩
end
end Mi

set_option maxHeartbeats 2000000
namespace Mi
open PySem PySem.Spec PyProof.Rows L2 Evl PySem.W
theorem zipS_at {x y : Str} {i : Nat} {a b : V} (h : (zipS x y)[i]? = some (a, b)) : ∃ c d, x.cps[i]? = some c ∧ y.cps[i]? = some d ∧ a = sgn c ∧ b = sgn d := by
  unfold zipS at h
  rw [List.getElem?_map] at h
  cases e : (x.cps.toList.zip y.cps.toList)[i]? with
  | none => rw [e] at h; cases h
  | some p =>
    rw [e] at h
    obtain ⟨c, d⟩ := p
    have h2 := List.getElem?_zip_eq_some.mp e
    have h3 : (sgn c, sgn d) = (a, b) := Option.some.inj h
    injection h3 with h4 h5
    exact ⟨c, d, by simpa using h2.1, by simpa using h2.2, h4.symm, h5.symm⟩
section
variable {K : PySem.W.Frag} {σ : L2.St} {H H' : Hp} {te ta tb tc : TE} {t u : TT} {tr : TA} {d d1 d2 d' : Dd} {x y : V} {r : R2}

/-! ### lists of whole numbers compared -/
theorem dpAll_ints : ∀ ns : List Int, DpAll K H (vis ns) (ns.map PyData.int)
  | [] => .nil
  | n :: r => .cons (.int n) (dpAll_ints r)
theorem eqv_ints : ∀ ns ms : List Int, PyData.eqvAll (ns.map PyData.int) (ms.map PyData.int) = decide (ns = ms)
  | [], [] => by simp [PyData.eqvAll]
  | [], _ :: _ => by simp [PyData.eqvAll]
  | _ :: _, [] => by simp [PyData.eqvAll]
  | a :: r, b :: t => by
    simp only [List.map_cons, PyData.eqvAll, PyData.eqv, eqv_ints r t]
    by_cases h : a = b <;> by_cases h' : r = t <;> simp [h, h']
theorem shaped_tup (ns : List Int) : SeqAt.shaped (.tuple (ns.map PyData.int)) = true := by
  simp [SeqAt.shaped, PyData.canLay0, PyData.depth, ke_canLayAll0, ke_depthAll]
theorem ro_eqL {ns ms : List Int} : Ro K (rEqD K) (.l (vis ns)) (.l (vis ms)) (.v (.bl (decide (ns = ms)))) := by
  rintro _ _ H1 ⟨p, rfl, hp⟩ ⟨p', rfl, hp'⟩ Q q
  refine ⟨_, _, .lst hp (dpAll_ints ns), .lst hp' (dpAll_ints ms), ke_shaped_ints ns, ke_shaped_ints ms, q _ H1 (Ex.refl H1) ?_⟩
  show V.bl (PyData.eqvAll _ _) = _
  rw [eqv_ints]
theorem ro_neL {ns ms : List Int} : Ro K (rNeD K) (.l (vis ns)) (.l (vis ms)) (.v (.bl (!decide (ns = ms)))) := by
  rintro _ _ H1 ⟨p, rfl, hp⟩ ⟨p', rfl, hp'⟩ Q q
  refine ⟨_, _, .lst hp (dpAll_ints ns), .lst hp' (dpAll_ints ms), ke_shaped_ints ns, ke_shaped_ints ms, q _ H1 (Ex.refl H1) ?_⟩
  show V.bl (!PyData.eqvAll _ _) = _
  rw [eqv_ints]
theorem ro_eqU {ns ms : List Int} : Ro K (rEqD K) (.u (vis ns)) (.u (vis ms)) (.v (.bl (decide (ns = ms)))) := by
  rintro _ _ H1 ⟨p, rfl, hp⟩ ⟨p', rfl, hp'⟩ Q q
  refine ⟨_, _, .tup hp (dpAll_ints ns), .tup hp' (dpAll_ints ms), shaped_tup ns, shaped_tup ms, q _ H1 (Ex.refl H1) ?_⟩
  show V.bl (PyData.eqvAll _ _) = _
  rw [eqv_ints]

/-! ### built-ins -/
def rInt1 : List V → Hp → VK → Prop := fun xs H Q => (∃ i, xs = [.int i] ∧ Q (.int i) H) ∨ ∃ k, xs = [.bl k] ∧ Q (.int (if k then 1 else 0)) H
def rTupS (K : PySem.W.Frag) : List V → Hp → VK → Prop := fun xs H Q => ∃ p ys, xs = [.ref p] ∧ ((SqL K H p ys ∧ ∀ l, H l = none → Q (.ref l) (upd H l (.tup ys))) ∨ (SqT K H p ys ∧ Q (.ref p) H))
def rLenStr : List V → Hp → VK → Prop := fun xs H Q => ∃ z, xs = [.str z] ∧ z.length ≤ sizeLine ∧ Q (.int z.length) H
theorem cr_len {X : Cx} : CallR X (.builtin "len") (rLenS X.K) := call_len_seq
theorem cr_lenStr {X : Cx} : CallR X (.builtin "len") rLenStr := call_len_str
theorem cr_int {X : Cx} : CallR X (.type "int") rInt1 := call_int1
theorem cr_list {X : Cx} : CallR X (.type "list") (rListS X.K) := call_list_of
theorem cr_tuple {X : Cx} : CallR X (.type "tuple") (rTupS X.K) := call_tuple_of
theorem cr_max2 {X : Cx} (hc : X.calm = true := by rfl) : CallR X (.builtin "max") rMax2 := call_max2 hc
theorem cr_isi {X : Cx} : CallR X (.builtin "isinstance") (rIsi X.K) := call_isi
theorem rc_lenL {xs : List V} : Rc K (rLenS K) [.l xs] (.v (.int (xs.length : Int))) := by
  rintro _ H1 (_ | ⟨⟨p, rfl, hp⟩, _ | _⟩) Q q
  exact ⟨p, xs, rfl, .inl hp, q _ H1 (Ex.refl H1) rfl⟩
theorem rc_lenN {xs : List V} : Rc K (rLenS K) [.n xs] (.v (.int (xs.length : Int))) := by
  rintro _ H1 (_ | ⟨⟨p, rfl, hp⟩, _ | _⟩) Q q
  exact ⟨p, xs, rfl, .inl (sq_of hp), q _ H1 (Ex.refl H1) rfl⟩
theorem rc_lenU {xs : List V} : Rc K (rLenS K) [.u xs] (.v (.int (xs.length : Int))) := by
  rintro _ H1 (_ | ⟨⟨p, rfl, hp⟩, _ | _⟩) Q q
  exact ⟨p, xs, rfl, .inr hp, q _ H1 (Ex.refl H1) rfl⟩
theorem rc_lenS {z : Str} (hz : z.length ≤ 100000) : Rc K rLenStr [.v (.str z)] (.v (.int (z.length : Int))) := by
  rintro _ H1 (_ | ⟨rfl, _ | _⟩) Q q
  exact ⟨z, rfl, sz_of hz, q _ H1 (Ex.refl H1) rfl⟩
theorem rc_int {i : Int} : Rc K rInt1 [.v (.int i)] (.v (.int i)) := by
  rintro _ H1 (_ | ⟨rfl, _ | _⟩) Q q
  exact .inl ⟨i, rfl, q _ H1 (Ex.refl H1) rfl⟩
theorem rc_intB {b : Bool} : Rc K rInt1 [.v (.bl b)] (.v (.int (if b then 1 else 0))) := by
  rintro _ H1 (_ | ⟨rfl, _ | _⟩) Q q
  exact .inr ⟨b, rfl, q _ H1 (Ex.refl H1) rfl⟩
theorem rc_max2 {i j : Int} : Rc K rMax2 [.v (.int i), .v (.int j)] (.v (.int (if j > i then j else i))) := by
  rintro _ H1 (_ | ⟨rfl, _ | ⟨rfl, _ | _⟩⟩) Q q
  exact ⟨i, j, rfl, q _ H1 (Ex.refl H1) rfl⟩
theorem rc_listL {xs : List V} : Rc K (rListS K) [.l xs] (.n xs) := by
  rintro _ H1 (_ | ⟨⟨p, rfl, hp⟩, _ | _⟩) Q q
  exact ⟨p, xs, rfl, .inl hp, fun l hl => q _ _ (Ex.new hl) ⟨l, rfl, upd_same⟩⟩
theorem rc_listU {xs : List V} : Rc K (rListS K) [.u xs] (.n xs) := by
  rintro _ H1 (_ | ⟨⟨p, rfl, hp⟩, _ | _⟩) Q q
  exact ⟨p, xs, rfl, .inr hp, fun l hl => q _ _ (Ex.new hl) ⟨l, rfl, upd_same⟩⟩
theorem rc_tupL {xs : List V} : Rc K (rTupS K) [.l xs] (.u xs) := by
  rintro _ H1 (_ | ⟨⟨p, rfl, hp⟩, _ | _⟩) Q q
  exact ⟨p, xs, rfl, .inl ⟨hp, fun l hl => q _ _ (Ex.new hl) ⟨l, rfl, st_of upd_same⟩⟩⟩
theorem rc_tupN {xs : List V} : Rc K (rTupS K) [.n xs] (.u xs) := fun vs H1 h Q q => by
  cases h with
  | cons a b => exact rc_tupL _ H1 (.cons a.n2l b) Q q
/-- isinstance(x, T) -/
theorem rc_isi {n : String} {b : Bool} (t : Value) (ht : ∀ H1 v, Is K H1 d v → TyX K H1 v t) (hk : PySem.W.kitOne K t (.type n) = some b) : Rc K (rIsi K) [d, .v (.ty n)] (.v (.bl b)) := by
  rintro _ H1 (_ | ⟨hd, _ | ⟨rfl, _ | _⟩⟩) Q q
  exact ⟨_, _, t, .type n, b, rfl, .ty n, ht _ _ hd, hk, q _ H1 (Ex.refl H1) rfl⟩
theorem ty_u {xs : List V} {H1 : Hp} {v : V} (h : Is K H1 (.u xs) v) : TyX K H1 v (.type "tuple") := by
  obtain ⟨p, rfl, hp⟩ := h
  rcases hp with (hp | ⟨o, hp⟩) | ⟨o, its, n, h1, h2, _⟩
  · exact .base (.tup hp)
  · exact .fTuple hp
  · exact .kTuple h1 h2
theorem ty_l {xs : List V} {H1 : Hp} {v : V} (h : Is K H1 (.l xs) v) : TyX K H1 v (.type "list") := by
  obtain ⟨p, rfl, hp⟩ := h
  rcases hp with (hp | ⟨o, hp⟩) | ⟨o, its, n, h1, h2, _⟩
  · exact .base (.lst hp)
  · exact .base (.frz hp)
  · exact .kList h1 h2
theorem rc_isi_int {n : String} {i : Int} {b : Bool} (h : kitB "int" n = some b) : Rc K (rIsi K) [.v (.int i), .v (.ty n)] (.v (.bl b)) := rc_isi (.type "int") (fun _ _ e => by rw [show _ = V.int i from e]; exact .base (.int i)) (kit_ty h)
theorem rc_isi_str {n : String} {i : Str} {b : Bool} (h : kitB "str" n = some b) : Rc K (rIsi K) [.v (.str i), .v (.ty n)] (.v (.bl b)) := rc_isi (.type "str") (fun _ _ e => by rw [show _ = V.str i from e]; exact .base (.str i)) (kit_ty h)
theorem rc_isi_bl {n : String} {i : Bool} {b : Bool} (h : kitB "bool" n = some b) : Rc K (rIsi K) [.v (.bl i), .v (.ty n)] (.v (.bl b)) := rc_isi (.type "bool") (fun _ _ e => by rw [show _ = V.bl i from e]; exact .base (.bl i)) (kit_ty h)
theorem rc_isi_non {n : String} {b : Bool} (h : kitB "NoneType" n = some b) : Rc K (rIsi K) [.v .non, .v (.ty n)] (.v (.bl b)) := rc_isi (.type "NoneType") (fun _ _ e => by rw [show _ = V.non from e]; exact .base .non) (kit_ty h)
theorem rc_isi_u {n : String} {xs : List V} {b : Bool} (h : kitB "tuple" n = some b) : Rc K (rIsi K) [.u xs, .v (.ty n)] (.v (.bl b)) := rc_isi (.type "tuple") (fun _ _ e => ty_u e) (kit_ty h)
theorem rc_isi_l {n : String} {xs : List V} {b : Bool} (h : kitB "list" n = some b) : Rc K (rIsi K) [.l xs, .v (.ty n)] (.v (.bl b)) := rc_isi (.type "list") (fun _ _ e => ty_l e) (kit_ty h)

/-! ### methods -/
def Rm (K : PySem.W.Frag) (T : String) (r : V → List V → Hp → VK → Prop) (d0 : Dd) (ds : List Dd) (d : Dd) : Prop :=
  (∀ x H1, Is K H1 d0 x → tyV K T x H1) ∧ ∀ x vs H1, Is K H1 d0 x → IsAll K H1 ds vs → ∀ Q : VK, (∀ v H2, Ex H1 H2 → Is K H2 d v → Q v H2) → r x vs H1 Q
theorem er_bm {T : String} {rm : V → List V → Hp → VK → Prop} {ds : List Dd} {d0 : Dd} {to : TE} (ho : Er K to σ H d0) (h : Era K tr σ H ds) (hr : Rm K T rm d0 ds d) : Er K (tBM K T rm to tr) σ H d := fun H1 e Q q =>
  ho H1 e _ fun x H2 e2 z => ⟨hr.1 x H2 z, h H2 (e.trans e2) _ fun vs H3 e3 z3 => hr.2 x vs H3 (z.mono e3) z3 Q fun v H4 e4 z4 => q v H4 ((e2.trans e3).trans e4) z4⟩
def rJoin (K : PySem.W.Frag) : V → List V → Hp → VK → Prop := fun x xs H Q => ∃ a p, ∃ ys : List Str, x = .str a ∧ xs = [.ref p] ∧ (SqL K H p (ys.map V.str) ∨ SqT K H p (ys.map V.str)) ∧ (ys.map (·.length)).sum + ys.length * a.length ≤ 16777216 ∧ Q (.str (Txt.join a ys)) H
theorem mt_joinN {X : Cx} : MtR X "str.join" (rJoin X.K) := mt_join
def rSIndex : V → List V → Hp → VK → Prop := fun x xs H Q => ∃ a b i rest, x = .str a ∧ xs = [.str b] ∧ Builtin.Str.occurrences a b 0 a.length 1 = i :: rest ∧ Q (.int (i : Nat)) H
theorem mt_sindexN {X : Cx} : MtR X "str.index" rSIndex := mt_sindex
theorem rm_join {a : Str} {ys : List Str} (hz : (ys.map (·.length)).sum + ys.length * a.length ≤ 100000) : Rm K "str" (rJoin K) (.v (.str a)) [.n (vss ys)] (.v (.str (Txt.join a ys))) := by
  refine ⟨fun x H1 e => ?_, ?_⟩
  · rw [show x = V.str a from e]; exact rfl
  · rintro _ _ H1 rfl (_ | ⟨⟨p, rfl, hp⟩, _ | _⟩) Q q
    exact ⟨a, p, ys, rfl, rfl, .inl (sq_of hp), by omega, q _ H1 (Ex.refl H1) rfl⟩
theorem rm_sindex {a b : Str} {i : Nat} {rest : List Nat} (h : Builtin.Str.occurrences a b 0 a.length 1 = i :: rest) : Rm K "str" rSIndex (.v (.str a)) [.v (.str b)] (.v (.int (i : Int))) := by
  refine ⟨fun x H1 e => ?_, ?_⟩
  · rw [show x = V.str a from e]; exact rfl
  · rintro _ _ H1 rfl (_ | ⟨rfl, _ | _⟩) Q q
    exact ⟨a, b, i, rest, rfl, rfl, h, q _ H1 (Ex.refl H1) rfl⟩
theorem rm_count {ys : List Str} {z : Str} : Rm K "list" (rCntS K) (.l (vss ys)) [.v (.str z)] (.v (.int (ys.count z : Nat))) := by
  refine ⟨fun x H1 e => ?_, ?_⟩
  · obtain ⟨p, rfl, hp⟩ := e
    exact .inl ⟨rfl, _, hp⟩
  · rintro _ _ H1 ⟨p, rfl, hp⟩ (_ | ⟨rfl, _ | _⟩) Q q
    exact ⟨p, ys, z, rfl, rfl, hp, q _ H1 (Ex.refl H1) rfl⟩
theorem er_repG {a y z : Str} (h : Er K te σ H (.v (.str a))) (hz : a.length ≤ 1000) (hz2 : z.length ≤ 1000) : Er K (tRepG te y z) σ H (.v (.str (Txt.replace a y z))) := fun H1 e Q q =>
  h H1 e _ fun v H2 e2 z2 => ⟨a, z2, by
    have : (a.length + 1) * z.length ≤ 1001 * 1000 := Nat.mul_le_mul (by omega) hz2
    omega, q _ H2 e2 rfl⟩

/-! ### slices -/
def Eo (to : TO) (σ : L2.St) (H : Hp) (o : Option Int) : Prop := EvO to σ H o
theorem eo_non : EvO tNoPart σ H none := eo_none
theorem eo_of {i : Int} (h : Er K te σ H (.v (.int i))) : EvO (tPart te) σ H (some i) := fun H1 e _ q => h H1 e _ fun v H2 e2 z => ⟨i, z, q H2 e2⟩
theorem er_slL {tl th : TO} {xs : List V} {lo hi : Option Int} (h : Er K te σ H (.l xs)) (h1 : EvO tl σ H lo) (h2 : EvO th σ H hi) : Er K (tSl (rSlL K) te tl th) σ H (.n (cutV xs lo hi)) := fun H1 e _ q =>
  h H1 e _ fun v H2 e2 ⟨p, ep, hp⟩ => h1 H2 (e.trans e2) _ fun H3 e3 => h2 H3 ((e.trans e2).trans e3) _ fun H4 e4 => by
    subst ep
    exact ⟨p, xs, rfl, ex_l (e3.trans e4) hp, fun l hl => q _ _ (((e2.trans e3).trans e4).trans (Ex.new hl)) ⟨l, rfl, upd_same⟩⟩
theorem er_slS {tl th : TO} {z : Str} {lo hi : Option Int} (h : Er K te σ H (.v (.str z))) (hz : z.length ≤ 100000) (h1 : EvO tl σ H lo) (h2 : EvO th σ H hi) : Er K (tSl rSlS te tl th) σ H (.v (.str (cutS z lo hi))) := fun H1 e _ q =>
  h H1 e _ fun v H2 e2 ev => h1 H2 (e.trans e2) _ fun H3 e3 => h2 H3 ((e.trans e2).trans e3) _ fun H4 e4 => ⟨z, ev, sz_of hz, q _ H4 ((e2.trans e3).trans e4) rfl⟩

/-! ### tests, choices -/
theorem et_t {b : Bool} (h : Er K te σ H (.v (.bl b))) : EvT (tTest te) σ H b := fun H1 e _ q => h H1 e _ fun v H2 e2 z => ⟨b, z, q H2 e2⟩
theorem et_v {b : Bool} (h : Er K te σ H (.v (.bl b))) : EvT (tB te) σ H b := fun H1 e _ q => h H1 e _ fun v H2 e2 z => ⟨b, z, q H2 e2⟩
theorem er_if {b : Bool} (h : EvT t σ H b) (h1 : b = true → Er K ta σ H d) (h2 : b = false → Er K tb σ H d) : Er K (tIf t ta tb) σ H d := fun H1 e Q q => h H1 e _ fun H2 e2 => by
  cases b with
  | true =>
    show ta σ H2 Q
    exact h1 rfl H2 (e.trans e2) Q fun v H3 e3 z => q v H3 (e2.trans e3) z
  | false =>
    show tb σ H2 Q
    exact h2 rfl H2 (e.trans e2) Q fun v H3 e3 z => q v H3 (e2.trans e3) z
theorem er_andV {a b : Bool} (h1 : Er K ta σ H (.v (.bl a))) (h2 : a = true → Er K tb σ H (.v (.bl b))) : Er K (tAndV ta tb) σ H (.v (.bl (a && b))) := fun H1 e Q q => h1 H1 e _ fun v H2 e2 z => ⟨a, z, by
  cases a with
  | true =>
    show tb σ H2 Q
    exact h2 rfl H2 (e.trans e2) Q fun v H3 e3 z => q v H3 (e2.trans e3) z
  | false =>
    show Q (.bl false) H2
    exact q _ H2 e2 rfl⟩
theorem er_orV {a b : Bool} (h1 : Er K ta σ H (.v (.bl a))) (h2 : a = false → Er K tb σ H (.v (.bl b))) : Er K (tOrV ta tb) σ H (.v (.bl (a || b))) := fun H1 e Q q => h1 H1 e _ fun v H2 e2 z => ⟨a, z, by
  cases a with
  | true =>
    show Q (.bl true) H2
    exact q _ H2 e2 rfl
  | false =>
    show tb σ H2 Q
    exact h2 rfl H2 (e.trans e2) Q fun v H3 e3 z => q v H3 (e2.trans e3) z⟩
theorem er_notV {a : Bool} (h1 : Er K ta σ H (.v (.bl a))) : Er K (tNotV ta) σ H (.v (.bl (!a))) := fun H1 e Q q => h1 H1 e _ fun v H2 e2 z => ⟨a, z, q _ H2 e2 rfl⟩

/-! ### calls of the text's own defs -/
def spR (K : PySem.W.Frag) {A : Type} (pre : A → Prop) (args : A → List Dd) (ret : A → Dd) : Sp := fun vs H Q _ => ∃ a : A, pre a ∧ IsAll K H (args a) vs ∧ ∀ v H', Ex H H' → Is K H' (ret a) v → Q v H'
theorem er_call {A : Type} {pre : A → Prop} {args : A → List Dd} {ret : A → Dd} {E : XK} {ds : List Dd} (a : A) (h : Era K tr σ H ds) (hd : ds = args a) (hp : pre a) : Er K (tCall (spR K pre args ret) [] E tr) σ H (ret a) := fun H1 e Q q =>
  h H1 e _ fun vs H2 e2 z => by
    rw [List.append_nil]
    exact ⟨a, hp, hd ▸ z, fun v H' e3 z3 => q v H' (e2.trans e3) z3⟩
theorem er_call2 {A : Type} {pre : A → Prop} {args : A → List Dd} {ret : A → Dd} (a : A) (h1 : Er K ta σ H d1) (h2 : Er K tb σ H d2) (hd : [d2, d1] = args a) (hp : pre a) : Er K (tCall2 (spR K pre args ret) ta tb) σ H (ret a) := fun H1 e Q q =>
  h1 H1 e _ fun v1 H2 e2 z1 => h2 H2 (e.trans e2) _ fun v2 H3 e3 z2 => ⟨v1, v2, rfl, a, hp, hd ▸ .cons z2 (.cons (z1.mono e3) .nil), fun v H' e4 z => q v H' ((e2.trans e3).trans e4) z⟩
theorem er_call1 {A : Type} {pre : A → Prop} {args : A → List Dd} {ret : A → Dd} (a : A) (h1 : Er K ta σ H d1) (hd : [d1] = args a) (hp : pre a) : Er K (tCall1 (spR K pre args ret) ta) σ H (ret a) := fun H1 e Q q =>
  h1 H1 e _ fun v1 H2 e2 z1 => ⟨v1, rfl, a, hp, hd ▸ .cons z1 .nil, fun v H' e4 z => q v H' (e2.trans e4) z⟩

/-! ### statements -/
variable {D : Ends} {tu tw tz : TS} {g : TG}
theorem a_asg {i : Nat} (h : Er K te σ H d) (k : ∀ v H1, Ex H H1 → Is K H1 d v → tz D (σ.set i (some v)) H1) : tSeq (tAsg te (gName i)) tz D σ H := h H (Ex.refl H) _ fun v H1 e z => k v H1 e z
theorem a_asg1 {i : Nat} (h : Er K te σ H d) (k : ∀ v H1, Ex H H1 → Is K H1 d v → D.nx (σ.set i (some v)) H1) : tAsg te (gName i) D σ H := h H (Ex.refl H) _ fun v H1 e z => k v H1 e z
theorem a_ret (h : Er K te σ H d) (k : ∀ v H1, Ex H H1 → Is K H1 d v → D.rt v H1) : tRet te D σ H := h H (Ex.refl H) _ k
/-- a new list that will grow -/
theorem a_new {i : Nat} (k : ∀ p H1, H p = none → Ex H H1 → H1 p = some (.lst []) → tz D (σ.set i (some (.ref p))) H1) : tSeq (tAsg (tLst tNil) (gName i)) tz D σ H :=
  ⟨Nat.zero_le _, fun p hp => k p _ hp (Ex.new hp) upd_same⟩
theorem a_app {l : Addr} {xs : List V} (hl : H l = some (.lst xs)) (ha : Er K ta σ H (.v (.ref l))) (h : Er K te σ H (.v x)) (hz : xs.length < 100000) (k : ∀ H1, Ex H H1 → D.nx σ (upd H1 l (.lst (xs ++ [x])))) :
    tDrop (tBM K "list" rAppend ta (tCons te tNil)) D σ H := ha H (Ex.refl H) _ fun v H1 e1 z1 => by
  have ez : v = .ref l := z1
  subst ez
  exact ⟨Or.inl ⟨rfl, xs, sq_of (e1 l _ hl)⟩, h H1 e1 _ fun v H2 e2 z2 => by
    have e3 : v = x := z2
    subst e3
    exact ⟨l, xs, v, rfl, rfl, e2 l _ (e1 l _ hl), sz_lt hz, k H2 (e1.trans e2)⟩⟩
theorem b_app {l : Addr} {xs : List V} (hl : H l = some (.lst xs)) (ha : Er K ta σ H (.v (.ref l))) (h : Er K te σ H (.v x)) (hz : xs.length < 100000) (k : ∀ H1, Ex H H1 → tz D σ (upd H1 l (.lst (xs ++ [x])))) :
    tSeq (tDrop (tBM K "list" rAppend ta (tCons te tNil))) tz D σ H := a_app (D := { D with nx := tz D }) hl ha h hz k
theorem a_forR1 {ta : TA} {j : Nat} {n : Nat} (h : Era K ta σ H [.v (.int (n : Int))]) (hn : n ≤ 100000) (Pv : Nat → L2.St → Hp → Prop) (h0 : ∀ H1, Ex H H1 → Pv 0 σ H1)
    (hs : ∀ (i : Nat) σ' H', i < n → Pv i σ' H' → tu { D with nx := Pv (i + 1), ct := Pv (i + 1), bk := D.nx } (σ'.set j (some (.int (i : Int)))) H') (hd : ∀ σ' H', Pv n σ' H' → D.nx σ' H') : tFor (iRng1 ta) (gName j) tu D σ H :=
  h H (Ex.refl H) _ fun vs H1 e z => by
    rcases z with _ | ⟨rfl, _ | _⟩
    exact ⟨(n : Int), rfl, by omega, by omega, for_range (lo := 0) (n := (n : Int).toNat) Pv (h0 H1 e) (fun i σ' H' hi p => by
      have e0 : (0 : Int) + (i : Int) = (i : Int) := Int.zero_add _
      show tu { D with nx := Pv (i + 1), ct := Pv (i + 1), bk := D.nx } (σ'.set j (some (.int ((0 : Int) + (i : Int))))) H'
      rw [e0]
      exact hs i σ' H' (by omega) p) (by rw [Int.toNat_natCast]; exact hd)⟩
theorem b_forR1 {ta : TA} {j : Nat} {n : Nat} (h : Era K ta σ H [.v (.int (n : Int))]) (hn : n ≤ 100000) (Pv : Nat → L2.St → Hp → Prop) (h0 : ∀ H1, Ex H H1 → Pv 0 σ H1)
    (hs : ∀ (i : Nat) σ' H', i < n → Pv i σ' H' → tu { D with nx := Pv (i + 1), ct := Pv (i + 1), bk := tz D } (σ'.set j (some (.int (i : Int)))) H') (hd : ∀ σ' H', Pv n σ' H' → tz D σ' H') : tSeq (tFor (iRng1 ta) (gName j) tu) tz D σ H :=
  a_forR1 (D := { D with nx := tz D }) h hn Pv h0 hs hd
/-- a loop over a list that stands at a: its place among the slots is known -/
theorem a_forA {a : Addr} {xs : List V} {tl : TE} {j : Nat} (h : Er K tl σ H (.v (.ref a))) (hx : SqL K H a xs) (Pv : Nat → L2.St → Hp → Prop) (h0 : ∀ H1, Ex H H1 → Pv 0 σ H1) (hl : ∀ i σ' H', i ≤ xs.length → Pv i σ' H' → SqL K H' a xs)
    (hs : ∀ i x σ' H', xs[i]? = some x → Pv i σ' H' → tu { D with nx := Pv (i + 1), ct := Pv (i + 1), bk := D.nx } (σ'.set j (some x)) H') (hd : ∀ σ' H', Pv xs.length σ' H' → D.nx σ' H') : tFor (iList K tl) (gName j) tu D σ H :=
  h H (Ex.refl H) _ fun v H1 e z => by
    have ez : v = .ref a := z
    subst ez
    exact ⟨a, rfl, ⟨xs, ex_l e hx⟩, for_list Pv (h0 H1 e) hl hs hd⟩
theorem b_forA {a : Addr} {xs : List V} {tl : TE} {j : Nat} (h : Er K tl σ H (.v (.ref a))) (hx : SqL K H a xs) (Pv : Nat → L2.St → Hp → Prop) (h0 : ∀ H1, Ex H H1 → Pv 0 σ H1) (hl : ∀ i σ' H', i ≤ xs.length → Pv i σ' H' → SqL K H' a xs)
    (hs : ∀ i x σ' H', xs[i]? = some x → Pv i σ' H' → tu { D with nx := Pv (i + 1), ct := Pv (i + 1), bk := tz D } (σ'.set j (some x)) H') (hd : ∀ σ' H', Pv xs.length σ' H' → tz D σ' H') : tSeq (tFor (iList K tl) (gName j) tu) tz D σ H :=
  a_forA (D := { D with nx := tz D }) h hx Pv h0 hl hs hd
/-- a loop over a list wherever it stands; nothing that stood ahead of the loop is changed -/
theorem a_forL {xs : List V} {tl : TE} {j : Nat} (h : Er K tl σ H (.l xs)) (Pv : Hp → Nat → L2.St → Hp → Prop) (h0 : ∀ H1, Ex H H1 → Pv H1 0 σ H1) (hl : ∀ H1 i σ' H', Pv H1 i σ' H' → Ex H1 H')
    (hs : ∀ H1 i x σ' H', Ex H H1 → xs[i]? = some x → Pv H1 i σ' H' → tu { D with nx := Pv H1 (i + 1), ct := Pv H1 (i + 1), bk := D.nx } (σ'.set j (some x)) H') (hd : ∀ H1 σ' H', Ex H H1 → Pv H1 xs.length σ' H' → D.nx σ' H') : tFor (iList K tl) (gName j) tu D σ H :=
  h H (Ex.refl H) _ fun v H1 e ⟨p, ep, hp⟩ => by
    subst ep
    exact ⟨p, rfl, ⟨xs, hp⟩, for_list (Pv H1) (h0 H1 e) (fun i σ' H' _ q => ex_l (hl H1 i σ' H' q) hp) (fun i x σ' H' hx q => hs H1 i x σ' H' e hx q) (fun σ' H' q => hd H1 σ' H' e q)⟩
theorem b_forL {xs : List V} {tl : TE} {j : Nat} (h : Er K tl σ H (.l xs)) (Pv : Hp → Nat → L2.St → Hp → Prop) (h0 : ∀ H1, Ex H H1 → Pv H1 0 σ H1) (hl : ∀ H1 i σ' H', Pv H1 i σ' H' → Ex H1 H')
    (hs : ∀ H1 i x σ' H', Ex H H1 → xs[i]? = some x → Pv H1 i σ' H' → tu { D with nx := Pv H1 (i + 1), ct := Pv H1 (i + 1), bk := tz D } (σ'.set j (some x)) H') (hd : ∀ H1 σ' H', Ex H H1 → Pv H1 xs.length σ' H' → tz D σ' H') : tSeq (tFor (iList K tl) (gName j) tu) tz D σ H :=
  a_forL (D := { D with nx := tz D }) h Pv h0 hl hs hd

/-! ### loops over pairs in new tuples -/
theorem for_P {ps : List (V × V)} {g : TG} {tb : TS} {D : Ends} {σ : L2.St} {H : Hp} (Pv : Nat → L2.St → Hp → Prop) (h0 : Pv 0 σ H)
    (hs : ∀ (i : Nat) (x y : V) (T : Addr) σ H, ps[i]? = some (x, y) → Pv i σ H → H T = none → g (.ref T) σ (upd H T (.tup [x, y])) fun σ2 H2 => tb { D with nx := Pv (i + 1), ct := Pv (i + 1), bk := D.nx } σ2 H2) (hd : ∀ σ H, Pv ps.length σ H → D.nx σ H) :
    ∃ W : Nat → Nat → L2.St → Hp → Prop, (∃ m, W 0 m σ H) ∧ ∀ i m σ H, W i m σ H →
      ((ItP ps).stop i H ∧ D.nx σ H) ∨ ((ItP ps).go i H ∧ ∃ N : L2.St → Hp → Prop, (∀ σ' H', N σ' H' → ∃ m', m' < m ∧ W (i + 1) m' σ' H') ∧ ∀ v H', (ItP ps).yld i H v H' → g v σ H' fun σ2 H2 => tb { D with nx := N, ct := N, bk := D.nx } σ2 H2) := by
  refine ⟨fun i m σ H => m = ps.length - i ∧ i ≤ ps.length ∧ Pv i σ H, ⟨ps.length, by simp, Nat.zero_le _, h0⟩, ?_⟩
  rintro i m σ H ⟨rfl, hi, p⟩
  by_cases hlt : i < ps.length
  · refine .inr ⟨hlt, Pv (i + 1), fun σ' H' p' => ⟨ps.length - (i + 1), by omega, rfl, hlt, p'⟩, fun v H' y => ?_⟩
    obtain ⟨T, x, y, rfl, hT, rfl, hxy⟩ := y
    exact hs i x y T σ H hxy p hT
  · have e : i = ps.length := by omega
    subst e
    exact .inl ⟨rfl, hd σ H p⟩
/-- for a, b in zip(one, two), two texts, the names in slots j1, j2 -/
theorem a_forZ {ta : TA} {j1 j2 : Nat} {one two : Str} (h : Era K ta σ H [.v (.str one), .v (.str two)]) (Pv : Nat → L2.St → Hp → Prop) (h0 : ∀ H1, Ex H H1 → Pv 0 σ H1)
    (hs : ∀ i c1 c2 σ' H' H2, one.cps[i]? = some c1 → two.cps[i]? = some c2 → Pv i σ' H' → Ex H' H2 → tu { D with nx := Pv (i + 1), ct := Pv (i + 1), bk := D.nx } ((σ'.set j1 (some (sgn c1))).set j2 (some (sgn c2))) H2)
    (hd : ∀ σ' H', Pv (min one.length two.length) σ' H' → D.nx σ' H') : tFor (iZipS ta) (gTup K 2 (gCons (gName j1) (gCons (gName j2) gNil))) tu D σ H :=
  h H (Ex.refl H) _ fun vs H1 e z => by
    rcases z with _ | ⟨rfl, _ | ⟨rfl, _ | _⟩⟩
    refine ⟨one, two, rfl, for_P Pv (h0 H1 e) (fun i x y T σ' H' hxy p hT => ?_) (fun σ' H' p => hd σ' H' (by rw [zipS_len] at p; exact p))⟩
    obtain ⟨c1, c2, h1, h2, e1, e2⟩ := zipS_at hxy
    subst e1
    subst e2
    exact ⟨T, [_, _], rfl, st_of upd_same, rfl, _, [_], rfl, _, [], rfl, rfl, hs i c1 c2 σ' H' _ h1 h2 p (Ex.new hT)⟩
theorem b_forZ {ta : TA} {j1 j2 : Nat} {one two : Str} (h : Era K ta σ H [.v (.str one), .v (.str two)]) (Pv : Nat → L2.St → Hp → Prop) (h0 : ∀ H1, Ex H H1 → Pv 0 σ H1)
    (hs : ∀ i c1 c2 σ' H' H2, one.cps[i]? = some c1 → two.cps[i]? = some c2 → Pv i σ' H' → Ex H' H2 → tu { D with nx := Pv (i + 1), ct := Pv (i + 1), bk := tz D } ((σ'.set j1 (some (sgn c1))).set j2 (some (sgn c2))) H2)
    (hd : ∀ σ' H', Pv (min one.length two.length) σ' H' → tz D σ' H') : tSeq (tFor (iZipS ta) (gTup K 2 (gCons (gName j1) (gCons (gName j2) gNil))) tu) tz D σ H :=
  a_forZ (D := { D with nx := tz D }) h Pv h0 hs hd
theorem q_tCut {M : L2.St → Hp → Prop} (h : tu { D with nx := M } σ H) (k : ∀ σ' H', M σ' H' → tz D σ' H') : tCut tu tz D σ H := ⟨M, h, k⟩
end

/-! ### list comprehensions whose items are flat -/
section
variable {K : PySem.W.Frag} {σ : L2.St} {H H' : Hp} {te tl : TE} {t : TT} {ta : TA}
/-- what has been made behind i turns -/
def acc {α : Type} (its : List α) (f : α → Bool) (g : α → V) (i : Nat) : List V := ((its.take i).filter f).map g
theorem acc_next {α : Type} {its : List α} {f : α → Bool} {g : α → V} {i : Nat} {x : α} (h : its[i]? = some x) : acc its f g (i + 1) = acc its f g i ++ if f x = true then [g x] else [] := by
  unfold acc
  rw [List.take_add_one, h]
  simp only [Option.toList, List.filter_append, List.map_append]
  congr 1
  by_cases hf : f x = true
  · simp [hf]
  · simp [hf]
theorem acc_all {α : Type} {its : List α} {f : α → Bool} {g : α → V} : acc its f g its.length = (its.filter f).map g := by
  unfold acc
  rw [List.take_length]
theorem acc_len {α : Type} (its : List α) (f : α → Bool) (g : α → V) (i : Nat) : (acc its f g i).length ≤ i := by
  unfold acc
  rw [List.length_map]
  refine Nat.le_trans (List.length_filter_le _ _) ?_
  rw [List.length_take]
  exact Nat.min_le_left _ _
def Cv {α : Type} (H : Hp) (its : List α) (f : α → Bool) (g : α → V) (Dl : Addr) (i : Nat) (H' : Hp) : Prop := H Dl = none ∧ Ex H H' ∧ H' Dl = some (.lst (acc its f g i))
theorem cv_turn {α : Type} {its : List α} {H H' H'' : Hp} {f : α → Bool} {g : α → V} {Dl : Addr} {i : Nat} {x : α} {σ2 : L2.St} (p : Cv H its f g Dl i H') (hx : its[i]? = some x) (hi : its.length ≤ 50000) (he2 : Ex H' H'') (ht : EvT t σ2 H (f x)) (he : f x = true → Er K te σ2 H (.v (g x))) :
    t σ2 H'' fun b H3 => if b = true then te σ2 H3 fun y H4 => ∃ acc, H4 Dl = some (.lst acc) ∧ acc.length < sizeLine ∧ Cv H its f g Dl (i + 1) (upd H4 Dl (.lst (acc ++ [y]))) else Cv H its f g Dl (i + 1) H3 := by
  obtain ⟨p1, p2, p3⟩ := p
  have hlt := (List.getElem?_eq_some_iff.mp hx).1
  refine ht H'' (p2.trans he2) _ fun H3 e3 => ?_
  have p4 := e3 Dl _ (he2 Dl _ p3)
  cases hf : f x with
  | true =>
    show te σ2 H3 fun y H4 => ∃ a, H4 Dl = some (.lst a) ∧ a.length < sizeLine ∧ Cv H its f g Dl (i + 1) (upd H4 Dl (.lst (a ++ [y])))
    refine he hf H3 ((p2.trans he2).trans e3) _ fun y H4 e4 z => ?_
    have ez : y = g x := z
    subst ez
    refine ⟨acc its f g i, e4 Dl _ p4, sz_lt (by have := acc_len its f g i; omega), p1, Ex.mut (((p2.trans he2).trans e3).trans e4) p1, ?_⟩
    rw [acc_next hx, if_pos hf]
    exact upd_same
  | false =>
    show Cv H its f g Dl (i + 1) H3
    refine ⟨p1, (p2.trans he2).trans e3, ?_⟩
    rw [acc_next hx, if_neg (by rw [hf]; exact Bool.false_ne_true), List.append_nil]
    exact p4
/-- [e for x in range(n) if t] -/
theorem er_lcR {n j : Nat} {vs : List Nat} (f : Nat → Bool) (g : Nat → V) (h : Era K ta σ H [.v (.int (n : Int))]) (hn : n ≤ 40000) (hw : ∀ x, wipe ((wipe σ vs).set j (some x)) vs = wipe σ vs)
    (ht : ∀ i H1, Ex H H1 → i < n → EvT t ((wipe σ vs).set j (some (.int (i : Int)))) H1 (f i)) (he : ∀ i H1, Ex H H1 → i < n → f i = true → Er K te ((wipe σ vs).set j (some (.int (i : Int)))) H1 (.v (g i))) :
    Er K (tLc (iRng1 ta) (gName j) t te vs) σ H (.n (((List.range n).filter f).map g)) := fun H0 e Q q => h H0 e _ fun ws H1 e1 z => by
  rcases z with _ | ⟨rfl, _ | _⟩
  refine ⟨(n : Int), rfl, by omega, by omega, fun Dl hD => ?_⟩
  rw [Int.toNat_natCast]
  refine lc_range (lo := 0) (n := n) (Cv H1 (List.range n) f g Dl) ⟨hD, Ex.new hD, upd_same⟩ (fun i H' hi p => ?_) fun H' p => ?_
  · have e0 : (0 : Int) + (i : Int) = (i : Int) := Int.zero_add _
    show wipe ((wipe σ vs).set j (some (.int ((0 : Int) + (i : Int))))) vs = wipe σ vs ∧ t ((wipe σ vs).set j (some (.int ((0 : Int) + (i : Int))))) H' fun b H3 => if b = true then te ((wipe σ vs).set j (some (.int ((0 : Int) + (i : Int))))) H3 fun y H4 => ∃ acc, H4 Dl = some (.lst acc) ∧ acc.length < sizeLine ∧ Cv H1 (List.range n) f g Dl (i + 1) (upd H4 Dl (.lst (acc ++ [y]))) else Cv H1 (List.range n) f g Dl (i + 1) H3
    rw [e0]
    exact ⟨hw _, cv_turn p (x := i) (by rw [List.getElem?_range hi]) (by rw [List.length_range]; omega) (Ex.refl _) (ht i H1 (e.trans e1) hi) (fun hf => he i H1 (e.trans e1) hi hf)⟩
  · obtain ⟨p1, p2, p3⟩ := p
    refine q _ H' (e1.trans p2) ⟨Dl, rfl, ?_⟩
    rw [p3]
    have := acc_all (its := List.range n) (f := f) (g := g)
    rw [List.length_range] at this
    rw [this]
/-- .. over a list -/
theorem er_lcL {α : Type} {its : List α} {inj : α → V} {j : Nat} {vs : List Nat} (f : α → Bool) (g : α → V) (h : Er K tl σ H (.l (its.map inj))) (hz : its.length ≤ 40000) (hw : ∀ x, wipe ((wipe σ vs).set j (some x)) vs = wipe σ vs)
    (ht : ∀ (i : Nat) x H1, Ex H H1 → its[i]? = some x → EvT t ((wipe σ vs).set j (some (inj x))) H1 (f x)) (he : ∀ (i : Nat) x H1, Ex H H1 → its[i]? = some x → f x = true → Er K te ((wipe σ vs).set j (some (inj x))) H1 (.v (g x))) :
    Er K (tLc (iList K tl) (gName j) t te vs) σ H (.n ((its.filter f).map g)) := fun H0 e Q q => h H0 e _ fun w H1 e1 ⟨a, ea, ha⟩ => by
  subst ea
  refine ⟨a, rfl, ⟨_, ha⟩, fun Dl hD => ?_⟩
  refine lc_list (xs := its.map inj) (Cv H1 its f g Dl) ⟨hD, Ex.new hD, upd_same⟩ (fun i H' _ p => ex_l p.2.1 ha) (fun i y H' hy p => ?_) fun H' p => ?_
  · rw [List.getElem?_map] at hy
    cases hx : its[i]? with
    | none => rw [hx] at hy; cases hy
    | some x =>
      rw [hx] at hy
      have ey : inj x = y := Option.some.inj hy
      subst ey
      exact ⟨hw _, cv_turn p hx (by omega) (Ex.refl _) (ht i x H1 (e.trans e1) hx) (fun hf => he i x H1 (e.trans e1) hx hf)⟩
  · obtain ⟨p1, p2, p3⟩ := p
    refine q _ H' (e1.trans p2) ⟨Dl, rfl, ?_⟩
    rw [p3, List.length_map, acc_all]

theorem lc_P {ps : List (V × V)} {g : TG} {tt : TT} {te : TE} {vs : List Nat} {σ : L2.St} {H1 : Hp} {D : Addr} {Qd : Hp → Prop} (Pv : Nat → Hp → Prop) (h0 : Pv 0 (upd H1 D (.lst [])))
    (hs : ∀ (i : Nat) x y (T : Addr) H, ps[i]? = some (x, y) → Pv i H → H T = none → g (.ref T) (wipe σ vs) (upd H T (.tup [x, y])) fun σ2 H2 => wipe σ2 vs = wipe σ vs ∧ tt σ2 H2 fun b H3 =>
      if b = true then te σ2 H3 fun y H4 => ∃ acc, H4 D = some (.lst acc) ∧ acc.length < sizeLine ∧ Pv (i + 1) (upd H4 D (.lst (acc ++ [y]))) else Pv (i + 1) H3) (hd : ∀ H, Pv ps.length H → Qd H) :
    ∃ W : Nat → Nat → Hp → Prop, (∃ m, W 0 m (upd H1 D (.lst []))) ∧ ∀ i m H, W i m H →
      ((ItP ps).stop i H ∧ Qd H) ∨ ((ItP ps).go i H ∧ ∃ Nx : Hp → Prop, (∀ H', Nx H' → ∃ m', m' < m ∧ W (i + 1) m' H') ∧ ∀ x H', (ItP ps).yld i H x H' → g x (wipe σ vs) H' fun σ2 H2 => wipe σ2 vs = wipe σ vs ∧ tt σ2 H2 fun b H3 =>
        if b = true then te σ2 H3 fun y H4 => ∃ acc, H4 D = some (.lst acc) ∧ acc.length < sizeLine ∧ Nx (upd H4 D (.lst (acc ++ [y]))) else Nx H3) := by
  refine ⟨fun i m H => m = ps.length - i ∧ i ≤ ps.length ∧ Pv i H, ⟨ps.length, by simp, Nat.zero_le _, h0⟩, ?_⟩
  rintro i m H ⟨rfl, hi, p⟩
  by_cases hlt : i < ps.length
  · refine .inr ⟨hlt, Pv (i + 1), fun H' p' => ⟨ps.length - (i + 1), by omega, rfl, hlt, p'⟩, fun v H' y => ?_⟩
    obtain ⟨T, x, y, rfl, hT, rfl, hxy⟩ := y
    exact hs i x y T H hxy p hT
  · have e : i = ps.length := by omega
    subst e
    exact .inl ⟨rfl, hd H p⟩
theorem lc_S {z : Str} {g : TG} {tt : TT} {te : TE} {vs : List Nat} {σ : L2.St} {H1 : Hp} {D : Addr} {Qd : Hp → Prop} (Pv : Nat → Hp → Prop) (h0 : Pv 0 (upd H1 D (.lst [])))
    (hs : ∀ (i : Nat) c H, z.cps.toList[i]? = some c → Pv i H → g (sgn c) (wipe σ vs) H fun σ2 H2 => wipe σ2 vs = wipe σ vs ∧ tt σ2 H2 fun b H3 =>
      if b = true then te σ2 H3 fun y H4 => ∃ acc, H4 D = some (.lst acc) ∧ acc.length < sizeLine ∧ Pv (i + 1) (upd H4 D (.lst (acc ++ [y]))) else Pv (i + 1) H3) (hd : ∀ H, Pv z.cps.size H → Qd H) :
    ∃ W : Nat → Nat → Hp → Prop, (∃ m, W 0 m (upd H1 D (.lst []))) ∧ ∀ i m H, W i m H →
      ((Its z).stop i H ∧ Qd H) ∨ ((Its z).go i H ∧ ∃ Nx : Hp → Prop, (∀ H', Nx H' → ∃ m', m' < m ∧ W (i + 1) m' H') ∧ ∀ x H', (Its z).yld i H x H' → g x (wipe σ vs) H' fun σ2 H2 => wipe σ2 vs = wipe σ vs ∧ tt σ2 H2 fun b H3 =>
        if b = true then te σ2 H3 fun y H4 => ∃ acc, H4 D = some (.lst acc) ∧ acc.length < sizeLine ∧ Nx (upd H4 D (.lst (acc ++ [y]))) else Nx H3) := by
  refine ⟨fun i m H => m = z.cps.size - i ∧ i ≤ z.cps.size ∧ Pv i H, ⟨z.cps.size, by simp, Nat.zero_le _, h0⟩, ?_⟩
  rintro i m H ⟨rfl, hi, p⟩
  by_cases hlt : i < z.cps.size
  · refine .inr ⟨hlt, Pv (i + 1), fun H' p' => ⟨z.cps.size - (i + 1), by omega, rfl, hlt, p'⟩, fun v H' y => ?_⟩
    obtain ⟨rfl, c, hc, rfl⟩ := y
    exact hs i c _ (by simpa using hc) p
  · have e : i = z.cps.size := by omega
    subst e
    exact .inl ⟨Nat.le_refl _, hd H p⟩
/-- [e for c in text if t] -/
theorem er_lcS {z : Str} {j : Nat} {vs : List Nat} (f : Nat → Bool) (g : Nat → V) (h : Er K tl σ H (.v (.str z))) (hz : z.length ≤ 40000) (hw : ∀ x, wipe ((wipe σ vs).set j (some x)) vs = wipe σ vs)
    (ht : ∀ (i : Nat) c H1, Ex H H1 → z.cps.toList[i]? = some c → EvT t ((wipe σ vs).set j (some (sgn c))) H1 (f c)) (he : ∀ (i : Nat) c H1, Ex H H1 → z.cps.toList[i]? = some c → f c = true → Er K te ((wipe σ vs).set j (some (sgn c))) H1 (.v (g c))) :
    Er K (tLc (iStr tl) (gName j) t te vs) σ H (.n ((z.cps.toList.filter f).map g)) := fun H0 e Q q => h H0 e _ fun w H1 e1 ew => by
  refine ⟨z, ew, fun Dl hD => ?_⟩
  refine lc_S (z := z) (Cv H1 z.cps.toList f g Dl) ⟨hD, Ex.new hD, upd_same⟩ (fun i c H' hc p => ?_) fun H' p => ?_
  · exact ⟨hw _, cv_turn p hc (by show z.cps.toList.length ≤ 50000; have : z.cps.toList.length = z.length := by simp [Str.length]
                                  omega) (Ex.refl _) (ht i c H1 (e.trans e1) hc) (fun hf => he i c H1 (e.trans e1) hc hf)⟩
  · obtain ⟨p1, p2, p3⟩ := p
    refine q _ H' (e1.trans p2) ⟨Dl, rfl, ?_⟩
    rw [p3, ← acc_all]
    simp
/-- [e for a, b in zip(one, two) if t], the names in slots j1, j2 -/
theorem er_lcZ {one two : Str} {j1 j2 : Nat} {vs : List Nat} (f : Nat × Nat → Bool) (g : Nat × Nat → V) (h : Era K ta σ H [.v (.str one), .v (.str two)]) (hz : one.length ≤ 40000) (hw : ∀ x y, wipe (((wipe σ vs).set j1 (some x)).set j2 (some y)) vs = wipe σ vs)
    (ht : ∀ (i : Nat) c1 c2 H1, Ex H H1 → one.cps[i]? = some c1 → two.cps[i]? = some c2 → EvT t (((wipe σ vs).set j1 (some (sgn c1))).set j2 (some (sgn c2))) H1 (f (c1, c2)))
    (he : ∀ (i : Nat) c1 c2 H1, Ex H H1 → one.cps[i]? = some c1 → two.cps[i]? = some c2 → f (c1, c2) = true → Er K te (((wipe σ vs).set j1 (some (sgn c1))).set j2 (some (sgn c2))) H1 (.v (g (c1, c2)))) :
    Er K (tLc (iZipS ta) (gTup K 2 (gCons (gName j1) (gCons (gName j2) gNil))) t te vs) σ H (.n (((one.cps.toList.zip two.cps.toList).filter f).map g)) := fun H0 e Q q => h H0 e _ fun ws H1 e1 z => by
  rcases z with _ | ⟨rfl, _ | ⟨rfl, _ | _⟩⟩
  refine ⟨one, two, rfl, fun Dl hD => ?_⟩
  refine lc_P (ps := zipS one two) (Cv H1 (one.cps.toList.zip two.cps.toList) f g Dl) ⟨hD, Ex.new hD, upd_same⟩ (fun i x y T H' hxy p hT => ?_) fun H' p => ?_
  · obtain ⟨c1, c2, h1, h2, e1', e2'⟩ := zipS_at hxy
    subst e1'
    subst e2'
    have hp : (one.cps.toList.zip two.cps.toList)[i]? = some (c1, c2) := List.getElem?_zip_eq_some (z := (c1, c2)) |>.mpr ⟨by simpa using h1, by simpa using h2⟩
    refine ⟨T, [_, _], rfl, st_of upd_same, rfl, _, [_], rfl, _, [], rfl, rfl, hw _ _, cv_turn p hp ?_ (Ex.new hT) (ht i c1 c2 H1 (e.trans e1) h1 h2) (fun hf => he i c1 c2 H1 (e.trans e1) h1 h2 hf)⟩
    rw [List.length_zip]
    have : one.cps.toList.length = one.length := by simp [Str.length]
    omega
  · obtain ⟨p1, p2, p3⟩ := p
    refine q _ H' (e1.trans p2) ⟨Dl, rfl, ?_⟩
    rw [p3, ← acc_all, zipS_len]
    simp
theorem enumS_at {x : Str} {i : Nat} {a b : V} (h : (enumS x)[i]? = some (a, b)) : ∃ c, x.cps.toList[i]? = some c ∧ a = .int (i : Int) ∧ b = sgn c := by
  have hl : i < (enumS x).length := (List.getElem?_eq_some_iff.mp h).1
  rw [enumS_len] at hl
  have e := enumS_get (x := x) (i := i) (c := x.cps[i]) (by simp [hl])
  rw [h] at e
  have e2 := Option.some.inj e
  injection e2 with e3 e4
  exact ⟨x.cps[i], by simp [hl], e3, e4⟩
/-- [e for k, c in enumerate(text) if t], the names in slots j1, j2 -/
theorem er_lcE {z : Str} {j1 j2 : Nat} {vs : List Nat} (f : Nat × Nat → Bool) (g : Nat × Nat → V) (h : Era K ta σ H [.v (.str z)]) (hz : z.length ≤ 40000) (hw : ∀ x y, wipe (((wipe σ vs).set j1 (some x)).set j2 (some y)) vs = wipe σ vs)
    (ht : ∀ (i : Nat) c H1, Ex H H1 → z.cps.toList[i]? = some c → EvT t (((wipe σ vs).set j1 (some (.int (i : Int)))).set j2 (some (sgn c))) H1 (f (c, i)))
    (he : ∀ (i : Nat) c H1, Ex H H1 → z.cps.toList[i]? = some c → f (c, i) = true → Er K te (((wipe σ vs).set j1 (some (.int (i : Int)))).set j2 (some (sgn c))) H1 (.v (g (c, i)))) :
    Er K (tLc (iEnumS ta) (gTup K 2 (gCons (gName j1) (gCons (gName j2) gNil))) t te vs) σ H (.n ((z.cps.toList.zipIdx.filter f).map g)) := fun H0 e Q q => h H0 e _ fun ws H1 e1 zz => by
  rcases zz with _ | ⟨rfl, _ | _⟩
  refine ⟨z, rfl, fun Dl hD => ?_⟩
  refine lc_P (ps := enumS z) (Cv H1 z.cps.toList.zipIdx f g Dl) ⟨hD, Ex.new hD, upd_same⟩ (fun i x y T H' hxy p hT => ?_) fun H' p => ?_
  · obtain ⟨c, h1, e1', e2'⟩ := enumS_at hxy
    subst e1'
    subst e2'
    have hp : z.cps.toList.zipIdx[i]? = some (c, i) := by rw [List.getElem?_zipIdx, h1]; simp
    refine ⟨T, [_, _], rfl, st_of upd_same, rfl, _, [_], rfl, _, [], rfl, rfl, hw _ _, cv_turn p hp ?_ (Ex.new hT) (ht i c H1 (e.trans e1) h1) (fun hf => he i c H1 (e.trans e1) h1 hf)⟩
    rw [List.length_zipIdx]
    have : z.cps.toList.length = z.length := by simp [Str.length]
    omega
  · obtain ⟨p1, p2, p3⟩ := p
    refine q _ H' (e1.trans p2) ⟨Dl, rfl, ?_⟩
    rw [p3, ← acc_all, enumS_len]
    simp
end
end Mi

set_option maxHeartbeats 2000000
namespace Mi
open PySem PySem.Spec PyProof.Rows L2 Evl

/-! ### a text by its codes -/
def S (l : List Nat) : Str := ⟨l.toArray⟩
theorem S_list (l : List Nat) : (S l).cps.toList = l := rfl
theorem S_len (l : List Nat) : (S l).length = l.length := by simp [S, Str.length]
theorem S_size (l : List Nat) : (S l).cps.size = l.length := by simp [S]
theorem S_of (x : Str) : S x.cps.toList = x := str_ext rfl
theorem S_inj {a b : List Nat} (h : S a = S b) : a = b := by
  exact congrArg (fun x : Str => x.cps.toList) h
theorem S_eq {a b : List Nat} : (V.str (S a) = V.str (S b)) ↔ a = b := ⟨fun h => S_inj (V.str.inj h), fun h => by rw [h]⟩
theorem S_app (a b : List Nat) : S a ++ S b = S (a ++ b) := str_ext (by
  show ((S a).cps ++ (S b).cps).toList = a ++ b
  simp [S])
theorem S_one (c : Nat) : (⟨#[c]⟩ : Str) = S [c] := rfl
theorem S_reps (a : List Nat) (n : Nat) : reps (S a) n = S (List.replicate n a).flatten := rfl
theorem S_at {l : List Nat} {i : Nat} : (S l).cps[i]? = l[i]? := by simp [S]
theorem join_ones (cs : List Nat) : Txt.join (S []) (cs.map fun c => S [c]) = S cs := by
  show Builtin.Str.glued (S []) (cs.map fun c => S [c]) = S cs
  rw [StrLaws.glued_eq_join]
  induction cs with
  | nil => rfl
  | cons c r ih =>
    cases r with
    | nil => rfl
    | cons c2 r2 =>
      show S [c] ++ S [] ++ Str.join (S []) ((c2 :: r2).map fun c => S [c]) = S (c :: c2 :: r2)
      rw [ih, S_app, S_app]
      simp

section
variable {K : PySem.W.Frag} {σ : L2.St} {H H' : Hp} {te ta tb tc : TE} {t u : TT} {tr : TA} {d d1 d2 d' : Dd} {x y : V} {r : R2}
def Dd.val : Dd → V
  | .v x => x
  | _ => .non
theorem er_lst' {ds : List Dd} (h : Era K tr σ H ds) (hd : ds = (ds.map Dd.val).map Dd.v) (hl : ds.length ≤ 100000) : Er K (tLst tr) σ H (.n (ds.map Dd.val)) := by
  rw [hd] at h
  exact er_lst h (by rw [List.length_map]; exact hl)
theorem er_tup' {ds : List Dd} (h : Era K tr σ H ds) (hd : ds = (ds.map Dd.val).map Dd.v) (hl : ds.length ≤ 100000) : Er K (tTup tr) σ H (.u (ds.map Dd.val)) := by
  rw [hd] at h
  exact er_tup h (by rw [List.length_map]; exact hl)
theorem ro_mulL {i j : Int} (h1 : -18446744073709551616 < i) (h2 : i < 18446744073709551616) : Ro K (rI CMul fun i j => .int (i * j)) (.v (.int i)) (.v (.int j)) (.v (.int (i * j))) := ro_I (.inl ⟨h1, h2⟩)
theorem ro_mulR {i j : Int} (h1 : -18446744073709551616 < j) (h2 : j < 18446744073709551616) : Ro K (rI CMul fun i j => .int (i * j)) (.v (.int i)) (.v (.int j)) (.v (.int (i * j))) := ro_I (.inr ⟨h1, h2⟩)
theorem ro_div {i j : Int} (h1 : 0 < j) (h2 : j < 1073741824) : Ro K (rI CDiv fun i j => .int (i / j)) (.v (.int i)) (.v (.int j)) (.v (.int (i / j))) := ro_I ⟨h1, h2⟩
theorem ro_mod {i j : Int} (h1 : 0 < j) : Ro K (rI (fun _ j => 0 < j) fun i j => .int (i % j)) (.v (.int i)) (.v (.int j)) (.v (.int (i % j))) := ro_I h1
theorem ro_ixI {ns : List Int} {i : Int} (h0 : 0 ≤ i) (h1 : i < ns.length) : Ro K (rIxL K) (.l (vis ns)) (.v (.int i)) (.v (.int (ns.getD i.toNat 0))) := by
  refine ro_ixL h0 ?_
  have h2 : i.toNat < ns.length := by omega
  rw [List.getElem?_map, List.getD_eq_getElem?_getD, List.getElem?_eq_getElem h2]
  rfl
theorem ro_ixIN {ns : List Int} {i : Int} (h0 : 0 ≤ i) (h1 : i < ns.length) : Ro K (rIxL K) (.n (vis ns)) (.v (.int i)) (.v (.int (ns.getD i.toNat 0))) := fun v w H1 a b => ro_ixI h0 h1 v w H1 a.n2l b
theorem ro_ixT2 {ys : List Str} {i : Int} (h0 : 0 ≤ i) (h1 : i < ys.length) : Ro K (rIxL K) (.l (vss ys)) (.v (.int i)) (.v (.str (ys.getD i.toNat Str.empty))) := by
  refine ro_ixL h0 ?_
  have h2 : i.toNat < ys.length := by omega
  rw [List.getElem?_map, List.getD_eq_getElem?_getD, List.getElem?_eq_getElem h2]
  rfl
theorem ro_ixG {xs : List V} {i : Int} (h0 : 0 ≤ i) (h1 : i < xs.length) : Ro K (rIxL K) (.n xs) (.v (.int i)) (.v (xs.getD i.toNat .non)) := by
  refine ro_ixN h0 ?_
  have h2 : i.toNat < xs.length := by omega
  rw [List.getD_eq_getElem?_getD, List.getElem?_eq_getElem h2]
  rfl
theorem ro_ixC {l : List Nat} {i : Int} (h0 : 0 ≤ i) (h1 : i < l.length) (hz : l.length ≤ 100000) : Ro K rIxS (.v (.str (S l))) (.v (.int i)) (.v (.str (S [l.getD i.toNat 0]))) := by
  refine ro_ixS (by rw [S_len]; exact hz) h0 ?_
  have h2 : i.toNat < l.length := by omega
  rw [S_list, List.getD_eq_getElem?_getD, List.getElem?_eq_getElem h2]
  rfl
theorem ro_addC {a b : List Nat} (h : a.length + b.length ≤ 100000) : Ro K rAddS2 (.v (.str (S a))) (.v (.str (S b))) (.v (.str (S (a ++ b)))) := by
  rw [← S_app]
  exact ro_addS (by rw [S_len, S_len]; exact h)
theorem ro_mulC {a : List Nat} {n : Nat} (hn : n ≤ 1000) (ha : a.length ≤ 1000) : Ro K rMulS (.v (.str (S a))) (.v (.int (n : Int))) (.v (.str (S (List.replicate n a).flatten))) := by
  rw [← S_reps]
  exact ro_mulS hn (by rw [S_len]; exact ha)
theorem ro_eqC {a b : List Nat} : Ro K rEq (.v (.str (S a))) (.v (.str (S b))) (.v (.bl (decide (a = b)))) := by
  have e : decide (V.str (S a) = V.str (S b)) = decide (a = b) := by rw [decide_eq_decide]; exact S_eq
  rw [← e]
  exact ro_eq rfl
theorem ro_neC {a b : List Nat} : Ro K rNe (.v (.str (S a))) (.v (.str (S b))) (.v (.bl (!decide (a = b)))) := by
  have e : decide (V.str (S a) = V.str (S b)) = decide (a = b) := by rw [decide_eq_decide]; exact S_eq
  rw [← e]
  exact ro_ne rfl
theorem ro_eqI {a b : Int} : Ro K rEq (.v (.int a)) (.v (.int b)) (.v (.bl (decide (a = b)))) := by
  have e : decide (V.int a = V.int b) = decide (a = b) := by rw [decide_eq_decide]; exact ⟨V.int.inj, fun h => by rw [h]⟩
  rw [← e]
  exact ro_eq rfl
theorem ro_neI {a b : Int} : Ro K rNe (.v (.int a)) (.v (.int b)) (.v (.bl (!decide (a = b)))) := by
  have e : decide (V.int a = V.int b) = decide (a = b) := by rw [decide_eq_decide]; exact ⟨V.int.inj, fun h => by rw [h]⟩
  rw [← e]
  exact ro_ne rfl
theorem ro_eqB {a b : Bool} : Ro K rEq (.v (.bl a)) (.v (.bl b)) (.v (.bl (decide (a = b)))) := by
  have e : decide (V.bl a = V.bl b) = decide (a = b) := by rw [decide_eq_decide]; exact ⟨V.bl.inj, fun h => by rw [h]⟩
  rw [← e]
  exact ro_eq rfl
theorem ro_neB {a b : Bool} : Ro K rNe (.v (.bl a)) (.v (.bl b)) (.v (.bl (!decide (a = b)))) := by
  have e : decide (V.bl a = V.bl b) = decide (a = b) := by rw [decide_eq_decide]; exact ⟨V.bl.inj, fun h => by rw [h]⟩
  rw [← e]
  exact ro_ne rfl
theorem rc_lenC {z : List Nat} (hz : z.length ≤ 100000) : Rc K rLenStr [.v (.str (S z))] (.v (.int (z.length : Int))) := by
  have h := rc_lenS (K := K) (z := S z) (by rw [S_len]; exact hz)
  rw [S_len] at h
  exact h
theorem rc_lenI {ns : List Int} : Rc K (rLenS K) [.l (vis ns)] (.v (.int (ns.length : Int))) := by
  have h := rc_lenL (K := K) (xs := vis ns)
  rw [List.length_map] at h
  exact h
theorem rc_lenT {ns : List Str} : Rc K (rLenS K) [.l (vss ns)] (.v (.int (ns.length : Int))) := by
  have h := rc_lenL (K := K) (xs := vss ns)
  rw [List.length_map] at h
  exact h
theorem rc_lenIN {ns : List Int} : Rc K (rLenS K) [.n (vis ns)] (.v (.int (ns.length : Int))) := by
  have h := rc_lenN (K := K) (xs := vis ns)
  rw [List.length_map] at h
  exact h
theorem rc_lenTN {ns : List Str} : Rc K (rLenS K) [.n (vss ns)] (.v (.int (ns.length : Int))) := by
  have h := rc_lenN (K := K) (xs := vss ns)
  rw [List.length_map] at h
  exact h
/-- ''.join of texts of one sign each -/
theorem rm_joinC {cs : List Nat} (hz : cs.length ≤ 100000) : Rm K "str" (rJoin K) (.v (.str (S []))) [.n (cs.map fun c => V.str (S [c]))] (.v (.str (S cs))) := by
  have h := rm_join (K := K) (a := S []) (ys := cs.map fun c => S [c]) (by
    rw [List.map_map, List.length_map, S_len]
    have e : ((fun x : Str => x.length) ∘ fun c => S [c]) = fun _ => 1 := by funext c; exact S_len [c]
    rw [e, List.map_const']
    simp
    exact hz)
  rw [join_ones] at h
  have e : vss (cs.map fun c => S [c]) = cs.map fun c => V.str (S [c]) := by rw [vss, List.map_map]; rfl
  rw [e] at h
  exact h
end

/-! ### a def of the text -/
structure At (K : PySem.W.Frag) (mg : Str → Option Value) (x : Str) (st : Stmt) (ps : List Str) : Prop where
  ex : ∃ f fd, mg x = some (.ref f) ∧ Fun K x x st f fd ∧ Binds K fd ps [] ∧
    (ps.length = 1 → ∀ (s : Shared) (w1 : Value), BindsTo s fd ⟨[], ps.zip [w1]⟩ (ps.zip [w1])) ∧
    (∀ p q, ps = [p, q] → ∀ (s : Shared) (w1 w2 : Value), BindsTo s fd ⟨[], [q, p].zip [w1, w2]⟩ ([p, q].zip [w2, w1]))
theorem IsAll.len {K : PySem.W.Frag} {H : Hp} : ∀ {ds : List Dd} {vs : List V}, IsAll K H ds vs → ds.length = vs.length
  | _, _, .nil => rfl
  | _, _, .cons _ b => congrArg (· + 1) (IsAll.len b)
theorem At.hasR {P : Program} {w : World} {K : PySem.W.Frag} {mg : Str → Option Value} {base : Heap} {x : Str} {st : Stmt} {N ps : List Str} {k : Nat} {T : Type} {pre : T → Prop} {args : T → List Dd} {ret : T → Dd}
    (h : At K mg x st ps) (Sc : FnScope N ps (defScope st)) (hl : ∀ a, (args a).length = ps.length)
    (hbody : ∀ (f : Addr) (cdv : Value) (A : Around) (outer : List Env) (s : Shared) (H : Hp) (a : T) (vs : List V) (Q : VK) (E : XK), Room k (A.deeper (envOfC x (defScope st) s.heap.objs.size f cdv)) → pre a → IsAll K H (args a) vs →
      (∀ v H', Ex H H' → Is K H' (ret a) v → Q v H') →
      ∃ t, PSs (cxOf CX0 P w K mg base N x (defScope st) f cdv A outer s H E).nox (defBody st) t ∧ t { nx := fun _ H' => Q .non H', rt := Q } (start N vs) H) :
    Has P w K mg base (k + 1) x ps (spR K pre args ret) := by
  obtain ⟨f, fd, hm, F, b0, b1, b2⟩ := h.ex
  refine ⟨f, fd, hm, F.kp, F.ok Sc (fun vs H Q E hsp => ?_) (fun cdv A outer s H vs Q E hr hsp => ?_), b0, b1, b2⟩
  · obtain ⟨a, _, hv, _⟩ := hsp
    rw [← hv.len, hl]
  · obtain ⟨a, hp, hv, hk⟩ := hsp
    exact hbody f cdv A outer s H a vs Q E hr hp hv hk
theorem Has.mono {P : Program} {w : World} {K : PySem.W.Frag} {mg : Str → Option Value} {base : Heap} {j k : Nat} {x : Str} {ps : List Str} {sp : Sp} (h : Has P w K mg base j x ps sp) (hj : j ≤ k) : Has P w K mg base k x ps sp := by
  obtain ⟨f, fd, a, b, c, d⟩ := h.ex
  exact ⟨f, fd, a, b, c.mono hj, d⟩

/-! ### the same, over texts by their codes -/
section
variable {K : PySem.W.Frag} {σ : L2.St} {H H' : Hp} {te tl : TE} {t : TT} {ta : TA} {D : Ends} {tu tz : TS}
theorem c_forZ {j1 j2 : Nat} {one two : List Nat} (h : Era K ta σ H [.s (S one), .s (S two)]) (Pv : Nat → L2.St → Hp → Prop) (h0 : ∀ H1, Ex H H1 → Pv 0 σ H1)
    (hs : ∀ (i : Nat) c1 c2 σ' H' H2, one[i]? = some c1 → two[i]? = some c2 → Pv i σ' H' → Ex H' H2 → tu { D with nx := Pv (i + 1), ct := Pv (i + 1), bk := tz D } ((σ'.set j1 (some (.str (S [c1])))).set j2 (some (.str (S [c2])))) H2)
    (hd : ∀ σ' H', Pv (min one.length two.length) σ' H' → tz D σ' H') : tSeq (tFor (iZipS ta) (gTup K 2 (gCons (gName j1) (gCons (gName j2) gNil))) tu) tz D σ H :=
  b_forZ h Pv h0 (fun i c1 c2 σ' H' H2 h1 h2 => hs i c1 c2 σ' H' H2 (by rw [← S_at]; exact h1) (by rw [← S_at]; exact h2)) (by rw [S_len, S_len]; exact hd)
theorem c_lcZ {one two : List Nat} {j1 j2 : Nat} {vs : List Nat} (f : Nat × Nat → Bool) (g : Nat × Nat → V) (h : Era K ta σ H [.s (S one), .s (S two)]) (hz : one.length ≤ 40000) (hw : ∀ x y, wipe (((wipe σ vs).set j1 (some x)).set j2 (some y)) vs = wipe σ vs)
    (ht : ∀ (i : Nat) c1 c2 H1, Ex H H1 → one[i]? = some c1 → two[i]? = some c2 → EvT t (((wipe σ vs).set j1 (some (.str (S [c1])))).set j2 (some (.str (S [c2])))) H1 (f (c1, c2)))
    (he : ∀ (i : Nat) c1 c2 H1, Ex H H1 → one[i]? = some c1 → two[i]? = some c2 → f (c1, c2) = true → Er K te (((wipe σ vs).set j1 (some (.str (S [c1])))).set j2 (some (.str (S [c2])))) H1 (.v (g (c1, c2)))) :
    Er K (tLc (iZipS ta) (gTup K 2 (gCons (gName j1) (gCons (gName j2) gNil))) t te vs) σ H (.n (((one.zip two).filter f).map g)) :=
  er_lcZ (one := S one) (two := S two) f g h (by rw [S_len]; exact hz) hw (fun i c1 c2 H1 e h1 h2 => ht i c1 c2 H1 e (by rw [← S_at]; exact h1) (by rw [← S_at]; exact h2)) (fun i c1 c2 H1 e h1 h2 => he i c1 c2 H1 e (by rw [← S_at]; exact h1) (by rw [← S_at]; exact h2))
theorem c_lcE {z : List Nat} {j1 j2 : Nat} {vs : List Nat} (f : Nat × Nat → Bool) (g : Nat × Nat → V) (h : Era K ta σ H [.s (S z)]) (hz : z.length ≤ 40000) (hw : ∀ x y, wipe (((wipe σ vs).set j1 (some x)).set j2 (some y)) vs = wipe σ vs)
    (ht : ∀ (i : Nat) c H1, Ex H H1 → z[i]? = some c → EvT t (((wipe σ vs).set j1 (some (.int (i : Int)))).set j2 (some (.str (S [c])))) H1 (f (c, i)))
    (he : ∀ (i : Nat) c H1, Ex H H1 → z[i]? = some c → f (c, i) = true → Er K te (((wipe σ vs).set j1 (some (.int (i : Int)))).set j2 (some (.str (S [c])))) H1 (.v (g (c, i)))) :
    Er K (tLc (iEnumS ta) (gTup K 2 (gCons (gName j1) (gCons (gName j2) gNil))) t te vs) σ H (.n ((z.zipIdx.filter f).map g)) :=
  er_lcE (z := S z) f g h (by rw [S_len]; exact hz) hw ht he
theorem c_lcS {z : List Nat} {j : Nat} {vs : List Nat} (f : Nat → Bool) (g : Nat → V) (h : Er K tl σ H (.s (S z))) (hz : z.length ≤ 40000) (hw : ∀ x, wipe ((wipe σ vs).set j (some x)) vs = wipe σ vs)
    (ht : ∀ (i : Nat) c H1, Ex H H1 → z[i]? = some c → EvT t ((wipe σ vs).set j (some (.str (S [c])))) H1 (f c)) (he : ∀ (i : Nat) c H1, Ex H H1 → z[i]? = some c → f c = true → Er K te ((wipe σ vs).set j (some (.str (S [c])))) H1 (.v (g c))) :
    Er K (tLc (iStr tl) (gName j) t te vs) σ H (.n ((z.filter f).map g)) :=
  er_lcS (z := S z) f g h (by rw [S_len]; exact hz) hw ht he
/-- an if without else whose branch always leaves, behind it the rest -/
theorem q_leave {b : Bool} (h : EvT t σ H b) (h1 : b = true → ∀ H1, Ex H H1 → tu { D with nx := tz D } σ H1) (h2 : b = false → ∀ H1, Ex H H1 → tz D σ H1) : tSeq (tIfS t tu tNext) tz D σ H := q_when h h1 h2
end

/-! ### tests that carry K -/
def Et (_K : PySem.W.Frag) (t : TT) (σ : L2.St) (H : Hp) (b : Bool) : Prop := EvT t σ H b
section
variable {K : PySem.W.Frag} {σ : L2.St} {H H' : Hp} {te ta tb : TE} {t u : TT} {a b : Bool} {d : Dd} {D : Ends} {tu tw tz : TS} {x y : V}
theorem et1 (h : Er K te σ H (.b b)) : Et K (tTest te) σ H b := et_t h
theorem et2 (h : Er K te σ H (.b b)) : Et K (tB te) σ H b := et_v h
theorem et_an (h1 : Et K t σ H a) (h2 : a = true → Et K u σ H b) : Et K (tAnd t u) σ H (a && b) := et_and h1 h2
theorem et_orr (h1 : Et K t σ H a) (h2 : a = false → Et K u σ H b) : Et K (tOr t u) σ H (a || b) := et_or h1 h2
theorem et_nt (h1 : Et K t σ H a) : Et K (tNot t) σ H (!a) := et_not h1
theorem Et.to (h : Et K t σ H a) (e : a = b) : Et K t σ H b := e ▸ h
theorem er_iff (h : Et K t σ H b) (h1 : b = true → Er K ta σ H d) (h2 : b = false → Er K tb σ H d) : Er K (tIf t ta tb) σ H d := er_if h h1 h2
/-- a if t else b, two values of one kind -/
theorem er_ite {xa xb : V} (h : Et K t σ H b) (h1 : b = true → Er K ta σ H (.v xa)) (h2 : b = false → Er K tb σ H (.v xb)) : Er K (tIf t ta tb) σ H (.v (if b = true then xa else xb)) := er_if h (fun hb => by rw [if_pos hb]; exact h1 hb) (fun hb => by rw [if_neg (by rw [hb]; exact Bool.false_ne_true)]; exact h2 hb)
theorem a_when (h : Et K t σ H b) (h1 : b = true → ∀ H1, Ex H H1 → tu { D with nx := tz D } σ H1) (h2 : b = false → ∀ H1, Ex H H1 → tz D σ H1) : tSeq (tIfS t tu tNext) tz D σ H := q_when h h1 h2
theorem a_when1 (h : Et K t σ H b) (h1 : b = true → ∀ H1, Ex H H1 → tu D σ H1) (h2 : b = false → ∀ H1, Ex H H1 → D.nx σ H1) : tIfS t tu tNext D σ H := s_when h h1 h2
theorem a_if (h : Et K t σ H b) (h1 : b = true → ∀ H1, Ex H H1 → tu { D with nx := tz D } σ H1) (h2 : b = false → ∀ H1, Ex H H1 → tw { D with nx := tz D } σ H1) : tSeq (tIfS t tu tw) tz D σ H := q_if h h1 h2
theorem a_if1 (h : Et K t σ H b) (h1 : b = true → ∀ H1, Ex H H1 → tu D σ H1) (h2 : b = false → ∀ H1, Ex H H1 → tw D σ H1) : tIfS t tu tw D σ H := s_if h h1 h2
/-- if c: x = e: told by what x holds behind it -/
theorem a_ifAsg {i : Nat} (h : Et K t σ H b) (h1 : b = true → Er K te σ H (.v x)) (h2 : b = false → σ.set i (some x) = σ) (k : ∀ H1, Ex H H1 → tz D (σ.set i (some x)) H1) : tSeq (tIfS t (tAsg te (gName i)) tNext) tz D σ H :=
  a_when h (fun hb H1 e1 => a_asg1 (D := { D with nx := tz D }) ((h1 hb).mono e1) fun v H2 e2 z => by
    have ez : v = x := z
    subst ez
    exact k H2 (e1.trans e2)) (fun hb H1 e1 => by
    have g := k H1 e1
    rw [h2 hb] at g
    exact g)
end
theorem filt_true {α : Type} (l : List α) : l.filter (fun _ => true) = l := List.filter_eq_self.mpr fun _ _ => rfl
theorem c_lcZ' {K : PySem.W.Frag} {σ : L2.St} {H : Hp} {te : TE} {ta : TA} {one two : List Nat} {j1 j2 : Nat} {vs : List Nat} (g : Nat × Nat → V) (h : Era K ta σ H [.s (S one), .s (S two)]) (hz : one.length ≤ 40000) (hw : ∀ x y, wipe (((wipe σ vs).set j1 (some x)).set j2 (some y)) vs = wipe σ vs)
    (he : ∀ (i : Nat) c1 c2 H1, Ex H H1 → one[i]? = some c1 → two[i]? = some c2 → Er K te (((wipe σ vs).set j1 (some (.str (S [c1])))).set j2 (some (.str (S [c2])))) H1 (.v (g (c1, c2)))) :
    Er K (tLc (iZipS ta) (gTup K 2 (gCons (gName j1) (gCons (gName j2) gNil))) tYes te vs) σ H (.n ((one.zip two).map g)) := by
  have := c_lcZ (K := K) (t := tYes) (te := te) (fun _ => true) g h hz hw (fun i c1 c2 H1 _ _ _ => fun H2 e Q q => q H2 (Ex.refl _)) (fun i c1 c2 H1 e h1 h2 _ => he i c1 c2 H1 e h1 h2)
  rwa [filt_true] at this
theorem c_lcE' {K : PySem.W.Frag} {σ : L2.St} {H : Hp} {te : TE} {ta : TA} {z : List Nat} {j1 j2 : Nat} {vs : List Nat} (g : Nat × Nat → V) (h : Era K ta σ H [.s (S z)]) (hz : z.length ≤ 40000) (hw : ∀ x y, wipe (((wipe σ vs).set j1 (some x)).set j2 (some y)) vs = wipe σ vs)
    (he : ∀ (i : Nat) c H1, Ex H H1 → z[i]? = some c → Er K te (((wipe σ vs).set j1 (some (.int (i : Int)))).set j2 (some (.str (S [c])))) H1 (.v (g (c, i)))) :
    Er K (tLc (iEnumS ta) (gTup K 2 (gCons (gName j1) (gCons (gName j2) gNil))) tYes te vs) σ H (.n (z.zipIdx.map g)) := by
  have := c_lcE (K := K) (t := tYes) (te := te) (fun _ => true) g h hz hw (fun i c H1 _ _ => fun H2 e Q q => q H2 (Ex.refl _)) (fun i c H1 e h1 _ => he i c H1 e h1)
  rwa [filt_true] at this
theorem c_lcS' {K : PySem.W.Frag} {σ : L2.St} {H : Hp} {te tl : TE} {z : List Nat} {j : Nat} {vs : List Nat} (g : Nat → V) (h : Er K tl σ H (.s (S z))) (hz : z.length ≤ 40000) (hw : ∀ x, wipe ((wipe σ vs).set j (some x)) vs = wipe σ vs)
    (he : ∀ (i : Nat) c H1, Ex H H1 → z[i]? = some c → Er K te ((wipe σ vs).set j (some (.str (S [c])))) H1 (.v (g c))) :
    Er K (tLc (iStr tl) (gName j) tYes te vs) σ H (.n (z.map g)) := by
  have := c_lcS (K := K) (t := tYes) (te := te) (fun _ => true) g h hz hw (fun i c H1 _ _ => fun H2 e Q q => q H2 (Ex.refl _)) (fun i c H1 e h1 _ => he i c H1 e h1)
  rwa [filt_true] at this
theorem er_lcR' {K : PySem.W.Frag} {σ : L2.St} {H : Hp} {te : TE} {ta : TA} {n j : Nat} {vs : List Nat} (g : Nat → V) (h : Era K ta σ H [.v (.int (n : Int))]) (hn : n ≤ 40000) (hw : ∀ x, wipe ((wipe σ vs).set j (some x)) vs = wipe σ vs)
    (he : ∀ i H1, Ex H H1 → i < n → Er K te ((wipe σ vs).set j (some (.int (i : Int)))) H1 (.v (g i))) :
    Er K (tLc (iRng1 ta) (gName j) tYes te vs) σ H (.n ((List.range n).map g)) := by
  have := er_lcR (K := K) (t := tYes) (te := te) (fun _ => true) g h hn hw (fun i H1 _ _ => fun H2 e Q q => q H2 (Ex.refl _)) (fun i H1 e h1 _ => he i H1 e h1)
  rwa [filt_true] at this

/-- a written text by its codes -/
theorem pe_strS {X : Cx} {x : Str} {j : Nat} {pos : Pos} (l : List Nat) (h : x = S l) : PE X (.Constant (.str x) j pos) (tC (.str (S l))) := by
  rw [← h]
  exact pe_str
/-- an if-elif chain's join is left to the reader -/
theorem Er.ofv {K : PySem.W.Frag} {te : TE} {σ : L2.St} {H : Hp} {x y : V} (h : Er K te σ H (.v x)) (e : x = y) : Er K te σ H (.v y) := e ▸ h
example : (("-abc" : Str) = S [45, 97, 98, 99]) := by decide +kernel
example : (("-abc" : Str) = S [45, 97, 98, 99]) := by rfl

section
variable {K : PySem.W.Frag} {σ : L2.St} {H H0 H' : Hp} {te ta tb : TE} {t u : TT} {a b : Bool} {d d' : Dd} {D : Ends} {tu tw tz : TS} {x y : V}
theorem a_rete (h : Er K te σ H d) (hd : d = d') (e0 : Ex H0 H) (hk : ∀ v H', Ex H0 H' → Is K H' d' v → D.rt v H') : tRet te D σ H := a_ret h fun v H1 e z => hk v H1 (e0.trans e) (hd ▸ z)
theorem a_setv {i : Nat} (h : Er K te σ H (.v x)) (k : ∀ H1, Ex H H1 → tz D (σ.set i (some x)) H1) : tSeq (tAsg te (gName i)) tz D σ H := a_asg h fun v H1 e z => by
  have ez : v = x := z
  subst ez
  exact k H1 e
theorem a_setv1 {i : Nat} (h : Er K te σ H (.v x)) (k : ∀ H1, Ex H H1 → D.nx (σ.set i (some x)) H1) : tAsg te (gName i) D σ H := a_asg1 h fun v H1 e z => by
  have ez : v = x := z
  subst ez
  exact k H1 e
end
theorem inV_int (i : Int) (cs : List Int) : inV (.int i) (vis cs) = decide (i ∈ cs) := by
  unfold inV vis
  rw [List.any_map, Bool.eq_iff_iff, List.any_eq_true]
  simp only [Function.comp_apply, decide_eq_true_eq]
  constructor
  · rintro ⟨x, hx, h⟩
    have e : x = i := by simpa [eqV] using h
    exact e ▸ hx
  · intro h
    exact ⟨i, h, by simp [eqV]⟩
theorem flat_vis (cs : List Int) : (vis cs).all flatV = true := by
  rw [List.all_eq_true]
  intro x hx
  obtain ⟨n, _, rfl⟩ := List.mem_map.mp hx
  rfl
theorem replC (a : List Nat) (b c : Nat) : Txt.replace (S a) (S [b]) (S [c]) = S (a.map fun x => if x = b then c else x) := str_ext (by
  rw [StrLaws.replace_list (by rw [S_len]; exact Nat.le_refl 1)]
  exact replL_one b c a)
section
variable {K : PySem.W.Frag}
theorem ro_inLi {i : Int} {cs : List Int} : Ro K (rIn K false) (.v (.int i)) (.l (vis cs)) (.b (decide (i ∈ cs))) := by
  have h := ro_inL (K := K) (neg := false) (x := .int i) (xs := vis cs) rfl (flat_vis cs)
  rw [if_neg Bool.false_ne_true, inV_int] at h
  exact h
theorem ro_inNi {i : Int} {cs : List Int} : Ro K (rIn K false) (.v (.int i)) (.n (vis cs)) (.b (decide (i ∈ cs))) := fun v w H1 a b => ro_inLi v w H1 a b.n2l
theorem ro_inUi {i : Int} {cs : List Int} : Ro K (rIn K false) (.v (.int i)) (.u (vis cs)) (.b (decide (i ∈ cs))) := by
  have h := ro_inU (K := K) (neg := false) (x := .int i) (xs := vis cs) rfl (flat_vis cs)
  rw [if_neg Bool.false_ne_true, inV_int] at h
  exact h
end

/-! ### rules that name K (for use within a comprehension) -/
section
variable {X : Cx} {K : PySem.W.Frag}
theorem op_in_k (h : X.K = K := by rfl) : OpR X (compareOp .In) (rIn K false) := h ▸ op_in_seq
theorem op_notIn_k (h : X.K = K := by rfl) : OpR X (compareOp .NotIn) (rIn K true) := h ▸ op_notIn_seq
theorem op_eqD_k (hu : X.A.units + 64 < cLine) (h : X.K = K := by rfl) : OpR X (compareOp .Eq) (rEqD K) := h ▸ op_eqD hu
theorem op_neD_k (hu : X.A.units + 64 < cLine) (h : X.K = K := by rfl) : OpR X (compareOp .NotEq) (rNeD K) := h ▸ op_neD hu
theorem ix_list_k (h : X.K = K := by rfl) : IxR X (rIxL K) := h ▸ ix_list
theorem ix_tup_k (h : X.K = K := by rfl) : IxR X (rIxT K) := h ▸ ix_tup
theorem sl_list_k (h : X.K = K := by rfl) : SlR X (rSlL K) := h ▸ sl_list
theorem cr_len_k (h : X.K = K := by rfl) : CallR X (.builtin "len") (rLenS K) := h ▸ cr_len
theorem cr_list_k (h : X.K = K := by rfl) : CallR X (.type "list") (rListS K) := h ▸ cr_list
theorem cr_tuple_k (h : X.K = K := by rfl) : CallR X (.type "tuple") (rTupS K) := h ▸ cr_tuple
theorem cr_isi_k (h : X.K = K := by rfl) : CallR X (.builtin "isinstance") (rIsi K) := h ▸ cr_isi
theorem mt_join_k (h : X.K = K := by rfl) : MtR X "str.join" (rJoin K) := h ▸ mt_joinN
theorem mt_count_k (h : X.K = K := by rfl) : MtR X "list.count" (rCntS K) := h ▸ mt_scount
theorem pi_list_k {tg l : Expr} {tl : TE} (h : PE X l tl) (hK : X.K = K := by rfl) : PI X tg l (iList K tl) := hK ▸ pi_list h
theorem pi_tup_k {tg l : Expr} {tl : TE} (h : PE X l tl) (hK : X.K = K := by rfl) : PI X tg l (iTup K tl) := hK ▸ pi_tup h
theorem pe_bm_k {o e : Expr} {es : List Expr} {to : TE} {t : TA} {name : Str} {apos cpos : Pos} {T id : String} {r : V → List V → Hp → VK → Prop} (pa : PlainAttrs T) (slot : Slot T name id) (hty : typeOf (.builtin id) = pure (.type "method_descriptor")) (hm : MtR X id r) (ho : PE X o to) (ha : PA X (e :: es) t)
    (hK : X.K = K := by rfl) (hbase : attributeBase o name X.env (eval o X.env) = eval o X.env := by rfl)
    (hfew : ((backTo cpos (starEach (e :: es) X.env)).all (fun x => !x.1) && (backToKw cpos (keywordEach [] X.env)).all (fun x => x.1.isSome)
      && decide ((e :: es).length + ([] : List Keyword).length + (if ([] : List Keyword).isEmpty then 0 else 1) < 30)) = true := by rfl)
    (hline : (apos.endLine == cpos.line) = true := by rfl) (hs : starEach (e :: es) X.env = (false, eval e X.env) :: starEach es X.env := by rfl) (hplain : (backTo cpos (starEach es X.env)).any (·.1) = false := by rfl) :
    PE X (.Call (.Attribute o name apos) (e :: es) [] cpos) (tBM K T r to t) := hK ▸ pe_bm pa slot hty hm ho ha hbase hfew hline hs hplain
end

theorem ro_1018 {K : PySem.W.Frag} : Ro K (rI CPow fun i j => .int (i ^ j.toNat)) (.v (.int 10)) (.v (.int 18)) (.v (.int 1000000000000000000)) := ro_I (K := K) (C := CPow) (g := fun i j => .int (i ^ j.toNat)) (i := 10) (j := 18) ⟨by decide, by decide, by decide⟩
theorem getD_vis {ns : List Int} {j : Nat} (h : j < ns.length) : (vis ns).getD j .non = .int (ns.getD j 0) := by
  rw [List.getD_eq_getElem?_getD, List.getD_eq_getElem?_getD, List.getElem?_map, List.getElem?_eq_getElem h]
  rfl
theorem vis_at {ns : List Int} {i : Nat} {x : V} (h : (vis ns)[i]? = some x) : ∃ n, ns[i]? = some n ∧ V.int n = x := by
  rw [List.getElem?_map] at h
  cases q : ns[i]? with
  | none => rw [q] at h; cases h
  | some n => rw [q] at h; exact ⟨n, rfl, Option.some.inj h⟩
theorem map_take_next {α β : Type} {l : List α} {f : α → β} {i : Nat} {x : α} (h : l[i]? = some x) : (l.take (i + 1)).map f = (l.take i).map f ++ [f x] := by
  rw [List.take_add_one, h, List.map_append]
  rfl
theorem zipIdx_at {α : Type} {l : List α} {i : Nat} {x : α} (h : l[i]? = some x) : l.zipIdx[i]? = some (x, i) := by
  rw [List.getElem?_zipIdx, h]
  simp

theorem vis_app (a : List Int) (n : Int) : vis (a ++ [n]) = vis a ++ [.int n] := by
  rw [vis, List.map_append]
  rfl
theorem vss_app (a : List Str) (n : Str) : vss (a ++ [n]) = vss a ++ [.str n] := by
  rw [vss, List.map_append]
  rfl

section
variable {K : PySem.W.Frag} {σ : L2.St} {H : Hp} {te ta tb tc : TE} {x y : V} {b : Bool}
/-- [x, y][int(b)] -/
theorem er_pick (h1 : Er K ta σ H (.v x)) (h2 : Er K tb σ H (.v y)) (hb : Er K tc σ H (.b b)) : Er K (tOp (rIxL K) (tLst (tCons ta (tCons tb tNil))) (tCB rInt1 (tCons tc tNil))) σ H (.v (if b = true then y else x)) := by
  refine er_op (d1 := .n [x, y]) (d2 := .i (if b then 1 else 0)) (er_lst (vs := [x, y]) (era_cons h1 (era_cons h2 era_nil)) (by simp)) (er_cb (era_cons hb era_nil) rc_intB) ?_
  cases b with
  | true => exact ro_ixN (by decide) rfl
  | false => exact ro_ixN (by decide) rfl
end
theorem cutS_to (l : List Nat) (n : Nat) : cutS (S l) none (some (n : Int)) = S (l.take n) := by
  unfold cutS
  rw [HT.sIx_none, HT.sIx_nat]
  show S _ = S _
  congr 1
  rw [List.drop_zero, S_list, S_len, Nat.sub_zero, List.take_eq_take_iff]
  omega
theorem cutS_from (l : List Nat) (n : Nat) : cutS (S l) (some (n : Int)) none = S (l.drop n) := by
  unfold cutS
  rw [HT.sIx_none, HT.sIx_nat, S_len, S_list]
  show S _ = S _
  congr 1
  by_cases h : n ≤ l.length
  · rw [Nat.min_eq_left h, List.take_of_length_le (by rw [List.length_drop]; exact Nat.le_refl _)]
  · rw [Nat.min_eq_right (by omega), List.drop_of_length_le (by omega : l.length ≤ n), List.drop_length]
    simp
theorem cutV_from (l : List V) (n : Nat) : cutV l (some (n : Int)) none = l.drop n := by
  unfold cutV
  rw [HT.sIx_none, HT.sIx_nat]
  by_cases h : n ≤ l.length
  · rw [Nat.min_eq_left h, List.take_of_length_le (by rw [List.length_drop]; exact Nat.le_refl _)]
  · rw [Nat.min_eq_right (by omega), List.drop_of_length_le (by omega : l.length ≤ n), List.drop_length]
    simp
theorem cutV_mid (l : List V) (n m : Nat) (h : n ≤ m) (hm : m ≤ l.length) : cutV l (some (n : Int)) (some (m : Int)) = (l.drop n).take (m - n) := by
  unfold cutV
  simp only [HT.sIx_nat, Nat.min_eq_left hm, Nat.min_eq_left (Nat.le_trans h hm)]
section
variable {K : PySem.W.Frag} {σ : L2.St} {H : Hp} {te ta tb : TE}
theorem er_slTo {l : List Nat} {n : Nat} (h : Er K te σ H (.s (S l))) (hz : l.length ≤ 100000) (h2 : Er K tb σ H (.i (n : Int))) : Er K (tSl rSlS te tNoPart (tPart tb)) σ H (.s (S (l.take n))) := by
  rw [← cutS_to]
  exact er_slS h (by rw [S_len]; exact hz) eo_non (eo_of h2)
theorem er_slFrom {l : List Nat} {n : Nat} (h : Er K te σ H (.s (S l))) (hz : l.length ≤ 100000) (h2 : Er K tb σ H (.i (n : Int))) : Er K (tSl rSlS te (tPart tb) tNoPart) σ H (.s (S (l.drop n))) := by
  rw [← cutS_from]
  exact er_slS h (by rw [S_len]; exact hz) (eo_of h2) eo_non
theorem vis_drop (ns : List Int) (n : Nat) : (vis ns).drop n = vis (ns.drop n) := by rw [vis, ← List.map_drop]
theorem vis_take (ns : List Int) (n : Nat) : (vis ns).take n = vis (ns.take n) := by rw [vis, ← List.map_take]
theorem er_slvFrom {ns : List Int} {n : Nat} (h : Er K te σ H (.l (vis ns))) (h2 : Er K tb σ H (.i (n : Int))) : Er K (tSl (rSlL K) te (tPart tb) tNoPart) σ H (.n (vis (ns.drop n))) := by
  rw [← vis_drop, ← cutV_from]
  exact er_slL h (eo_of h2) eo_non
theorem er_slvMid {ns : List Int} {n m : Nat} (h : Er K te σ H (.l (vis ns))) (h1 : Er K ta σ H (.i (n : Int))) (h2 : Er K tb σ H (.i (m : Int))) (hnm : n ≤ m) (hm : m ≤ ns.length) : Er K (tSl (rSlL K) te (tPart ta) (tPart tb)) σ H (.n (vis ((ns.drop n).take (m - n)))) := by
  rw [← vis_take, ← vis_drop, ← cutV_mid _ _ _ hnm (by rw [List.length_map]; exact hm)]
  exact er_slL h (eo_of h1) (eo_of h2)
end
end Mi

set_option maxHeartbeats 2000000
namespace Mi
open PySem PySem.Spec PyProof.Rows L2 Evl
section
variable {K : PySem.W.Frag} {σ : L2.St} {H H0 H' : Hp} {te ta tb : TE} {t u : TT} {a b : Bool} {d d' : Dd} {D : Ends} {tu tw tz : TS} {x y : V}
/-- if c: x = e, over texts of one sign -/
theorem a_ifSetC {i c e : Nat} (h : Et K t σ H b) (h1 : b = true → Er K te σ H (.s (S [c]))) (h2 : σ.set i (some (.str (S [e]))) = σ) (k : ∀ H1, Ex H H1 → tz D (σ.set i (some (.str (S [if b = true then c else e])))) H1) : tSeq (tIfS t (tAsg te (gName i)) tNext) tz D σ H :=
  a_ifAsg (x := .str (S [if b = true then c else e])) h (fun hb => by rw [if_pos hb]; exact h1 hb) (fun hb => by rw [if_neg (by rw [hb]; exact Bool.false_ne_true)]; exact h2) k
theorem er_pickC {c e : Nat} (h1 : Er K ta σ H (.s (S [c]))) (h2 : Er K tb σ H (.s (S [e]))) (hb : Er K te σ H (.b b)) : Er K (tOp (rIxL K) (tLst (tCons ta (tCons tb tNil))) (tCB rInt1 (tCons te tNil))) σ H (.s (S [if b = true then e else c])) := by
  have h := er_pick h1 h2 hb
  have e0 : (if b = true then V.str (S [e]) else V.str (S [c])) = V.str (S [if b = true then e else c]) := by cases b <;> rfl
  rw [e0] at h
  exact h
end
end Mi

set_option maxHeartbeats 4000000
namespace Mi
open PySem PySem.Spec PyProof.Rows L2 Evl PySem.W

/-! ### an object of ours that was not tracked is tracked from here on -/
theorem inv_track {X : Cx} {pins : List (Addr × Obj)} {σ : L2.St} {H : Hp} {s : Shared} {hp : Heap} {tn : Nat} {ch : List Addr} {T : Addr} {ob : HO} (I : Inv X pins σ H s) (kp : ∀ b o, b ∉ ch → s.heap.get? b = some o → hp.get? b = some o) (ok : ∀ b ∈ ch, FpOk X pins H b) (hT : T ∈ ch)
    (new : ObjOk X.prog X.w (upd H T ob) hp T ob) : Inv X pins σ (upd H T ob) { s with heap := hp, toks := tn } := by
  have hN : H T = none := (ok T hT).1
  have away : ∀ b u, H b = some u → b ∉ ch := fun b u e z => by
    rw [(ok b z).1] at e
    cases e
  have same : ∀ {b u}, H b = some u → upd H T ob b = some u := fun {b u} e => by
    have hb : b ≠ T := fun z => by rw [z, hN] at e; cases e
    rw [upd_ne hb]
    exact e
  refine I.step (ch := ch) ?a1 ?a2 ?a3 ?a4 ?a5 ?a6 ?a7 ?a8 ?a9 ?b1 I.bare
  case a1 => exact fun b hb => ⟨(ok b hb).2.2.2.1, (ok b hb).2.1, (ok b hb).2.2.2.2.1, (ok b hb).2.2.2.2.2⟩
  case a2 => exact fun b o _ _ hc e _ => kp b o hc e
  case a3 => exact fun b o _ _ hc e _ => ⟨o.slots, kp b o hc e⟩
  case a4 =>
    intro b o hc e n
    have hb : b ≠ T := by
      rintro rfl
      exact hc hT
    rw [upd_ne hb]
    exact n
  case a5 => exact fun b o hc e => ⟨o, kp b o hc e⟩
  case a6 => exact fun b xs e => same e
  case a7 => exact fun b o u e => same e
  case a8 =>
    intro b ps e
    refine ⟨#[], ?_⟩
    rw [same e]
    simp
  case a9 =>
    rintro m ⟨o, es, ep, ho, r⟩
    exact ⟨o, es, ep, kp _ o (fun z => (ok _ z).2.1 rfl) ho, r⟩
  case b1 =>
    intro b u e
    by_cases hb : b = T
    · subst hb
      rw [upd_same] at e
      cases e
      exact new
    · rw [upd_ne hb] at e
      refine (I.hok b u e).stay (fun c v hc z => kp c v ?_ z) (fun c z => same z) fun c xs z => same z
      rcases hc with z | z
      · exact z ▸ away b u e
      · exact away c _ z

/-! ### sorted by a def that answers its text -/
abbrev spId (K : PySem.W.Frag) : Sp := spR K (fun _ : List Nat => True) (fun a => [.s (S a)]) fun a => .s (S a)
def ordd (b : Bool) (ys : List (List Nat)) : List (List Nat) := ys.mergeSort (if b = true then fun x y => decide (y ≤ x) else fun x y => decide (x ≤ y))
def IsT (u : Value) (z : List Nat) : Prop := ∃ t, u = .str (S z) t
theorem each_of_vals : ∀ {ys : List (List Nat)} {us : List Value}, Vals (vss (ys.map S)) us → EachIs IsT us ys
  | [], _, h => by cases h; exact .nil
  | z :: r, _, h => by
    cases h with
    | cons a b => exact .cons a (each_of_vals b)
theorem vals_of_each : ∀ {us : List Value} {ys : List (List Nat)}, EachIs IsT us ys → Vals (vss (ys.map S)) us
  | _, _, .nil => .nil
  | _, _, .cons a b => .cons a (vals_of_each b)
theorem each_more {u : Value} {z : List Nat} (hu : IsT u z) : ∀ {us : List Value} {ys : List (List Nat)}, EachIs IsT us ys → EachIs IsT (us ++ [u]) (ys ++ [z])
  | _, _, .nil => .cons hu .nil
  | _, _, .cons a b => .cons a (each_more hu b)
theorem reads_of_each {hp : Heap} {us : List Value} {ys : List (List Nat)} (h : EachIs IsT us ys) : EachIs (fun v d => ∃ as, Reads hp v d as) us (ys.map fun z => PyData.str (S z)) := by
  induction h with
  | nil => exact .nil
  | cons a b ih =>
    obtain ⟨t, rfl⟩ := a
    exact .cons ⟨[], .str _ t⟩ ih
theorem dataLe_S (b : Bool) : dataLe b (fun z : List Nat => PyData.str (S z)) = if b = true then fun x y => decide (y ≤ x) else fun x y => decide (x ≤ y) := by
  cases b
  · rw [dataLe_str]; rfl
  · rw [dataGe_str]; rfl
/-- the heap without the object at k -/
def less (hp : Heap) (k : Addr) : Heap := hp.update k fun o => { o with data := .freed }
theorem less_at {hp : Heap} {k : Addr} {o : Obj} (h : hp.get? k = some o) : (less hp k).get? k = none := by
  cases hp with
  | mk objs l =>
    unfold less Heap.update Heap.get?
    simp only [Array.getElem?_modify, if_true]
    cases e : objs[k]? with
    | none => rfl
    | some q => rfl
theorem less_ne {hp : Heap} {k c : Addr} (h : c ≠ k) : (less hp k).get? c = hp.get? c := by
  unfold less
  rw [Heap.get?_update_ne _ _ _ _ h]
theorem each_at : ∀ {us : List Value} {ys : List (List Nat)} {i : Nat} {u : Value}, EachIs IsT us ys → us[i]? = some u → ∃ z, ys[i]? = some z ∧ IsT u z
  | [], _, _, _, _, h => by simp at h
  | _ :: _, _, 0, _, e, h => by
    cases e with
    | cons a b => exact ⟨_, rfl, Option.some.inj h ▸ a⟩
  | _ :: _, _, i + 1, _, e, h => by
    cases e with
    | cons a b => exact each_at (i := i) b h
theorem sorted_def {X : Cx} {k : Nat} {f : Addr} {fd : FuncData} {pn : Str} {b : Bool} {kw : List (Str × Value)} {pins : List (Addr × Obj)} {s : Shared} {σ : L2.St} {H : Hp} {a : Addr} {ys : List (List Nat)} {Q : VK}
    (F : FnOk X.prog X.w X.K X.mg X.base CX0 k f fd [pn] (spId X.K)) (hb : Binds X.K fd [pn] []) (hr : Room (k + 2) X.A) (I : Inv X pins σ H s) (hs : SqL X.K H a (vss (ys.map S)))
    (ha1 : argsOk "sorted" ⟨[.ref a], kw⟩) (ha2 : ∀ x, argsOk "list.sort" ⟨[.ref x], kw⟩) (ht : ∀ x, Builtin.«list.sort» ⟨[.ref x], kw⟩ = ksk_tree x (.ref f) b)
    (q : ∀ H2 p, Ex H H2 → H2 p = none → Q (.ref p) (upd H2 p (.lst (vss ((ordd b ys).map S))))) :
    wpAny (model X.prog X.w) X.A (call (.builtin "sorted") [.ref a] kw) (EP X pins σ Q) X.xe s := by
  obtain ⟨its, rv, hl, hz⟩ := I.list hs
  have hev := each_of_vals rv
  have hle : its.length = ys.length := hev.length
  have hZ : its.length ≤ sizeLine := by rw [← rv.length]; exact hz
  have un : X.A.in1.in1.units < cLine := by
    have h := hr.un
    show X.A.units + 1 + 1 < cLine
    omega
  have hr2 : Room k X.A.in1.in1 := (Room.in1 (show Room (k + 1 + 1) X.A from hr)).in1
  refine sorted_of_sort hl.isList hZ ha1 ha2 fun E' => ?_
  rw [ht]
  have hD := copyHeap_at s.heap its
  generalize eD : s.heap.objs.size + 1 = D at hD ⊢
  have hDs : D < (copyHeap s.heap its).objs.size := Heap.lt_size hD
  obtain ⟨e1, hD1⟩ : ∃ e1, ((copyHeap s.heap its).update D (Obj.mapSeq fun _ => (#[] : Array Value))).get? D = some (seqObj "list" #[] e1) := ⟨_, get?_update_seq hD fun _ => #[]⟩
  unfold ksk_tree
  refine wpAny_bind (listItems_at (s := { s with heap := copyHeap s.heap its }) hD rfl ?_)
  refine wpAny_bind (listUpdate_at (s := { s with heap := copyHeap s.heap its }) hD rfl ?_ (by rw [List.size_toArray]; exact hZ) (Nat.zero_le _))
  refine wpAny_bind (seqEpoch_at (s := { s with heap := (copyHeap s.heap its).update D (Obj.mapSeq fun _ => (#[] : Array Value)) }) hD1 rfl ?_)
  refine wpAny_bind (wpAny_newTuple ?_ (show its.length ≤ _ from hZ))
  refine wpAny_bind (wpAny_newList ?_ (Nat.zero_le _))
  refine wpAny_holding ?_
  have oldC : ∀ c o, s.heap.get? c = some o → c ≠ D ∧ (copyHeap s.heap its).get? c = some o := fun c o e => ⟨fun z => by
    have h1 : c < s.heap.objs.size := Heap.lt_size e
    rw [z, ← eD] at h1
    exact absurd h1 (Nat.not_lt.mpr (Nat.le_succ _)), copyHeap_old e⟩
  have dge : s.heap.objs.size ≤ D := Nat.le_of_succ_le (Nat.le_of_eq eD)
  have szK : (((copyHeap s.heap its).update D (Obj.mapSeq fun _ => (#[] : Array Value))).push (seqObj "tuple" its.toArray 0)).objs.size = (copyHeap s.heap its).objs.size + 1 := by rw [size_push', Heap.size_update]
  have hK : ((((copyHeap s.heap its).update D (Obj.mapSeq fun _ => (#[] : Array Value))).push (seqObj "tuple" its.toArray 0)).push (seqObj "list" #[] 0)).get? (((copyHeap s.heap its).update D (Obj.mapSeq fun _ => (#[] : Array Value))).push (seqObj "tuple" its.toArray 0)).objs.size = some (seqObj "list" #[] 0) := Heap.get?_push_size _ rfl
  have hD2 : ((((copyHeap s.heap its).update D (Obj.mapSeq fun _ => (#[] : Array Value))).push (seqObj "tuple" its.toArray 0)).push (seqObj "list" #[] 0)).get? D = some (seqObj "list" #[] e1) := Heap.get?_push_of_some _ (Heap.get?_push_of_some _ hD1)
  have old2 : ∀ c o, s.heap.get? c = some o → ((((copyHeap s.heap its).update D (Obj.mapSeq fun _ => (#[] : Array Value))).push (seqObj "tuple" its.toArray 0)).push (seqObj "list" #[] 0)).get? c = some o := fun c o e => by
    obtain ⟨c1, c2⟩ := oldC c o e
    exact Heap.get?_push_of_some _ (Heap.get?_push_of_some _ ((Heap.get?_update_ne _ _ _ _ c1).trans c2))
  have hKge : s.heap.objs.size ≤ (((copyHeap s.heap its).update D (Obj.mapSeq fun _ => (#[] : Array Value))).push (seqObj "tuple" its.toArray 0)).objs.size := by rw [szK]; omega
  have hDK : D ≠ (((copyHeap s.heap its).update D (Obj.mapSeq fun _ => (#[] : Array Value))).push (seqObj "tuple" its.toArray 0)).objs.size := by rw [szK]; omega
  show wpAny _ _ (ksk_rest D (.ref f) b its.toArray e1 (.ref (((copyHeap s.heap its).update D (Obj.mapSeq fun _ => (#[] : Array Value))).push (seqObj "tuple" its.toArray 0)).objs.size)) _ _ { s with heap := ((((copyHeap s.heap its).update D (Obj.mapSeq fun _ => (#[] : Array Value))).push (seqObj "tuple" its.toArray 0)).push (seqObj "list" #[] 0)) }
  revert hK hD2 old2 hKge hDK
  generalize (((copyHeap s.heap its).update D (Obj.mapSeq fun _ => (#[] : Array Value))).push (seqObj "tuple" its.toArray 0)).objs.size = kS
  generalize ((((copyHeap s.heap its).update D (Obj.mapSeq fun _ => (#[] : Array Value))).push (seqObj "tuple" its.toArray 0)).push (seqObj "list" #[] 0)) = hh
  intro hK hD2 old2 hKge hDK
  have I2 : Inv X pins σ H { s with heap := hh } := I.kept (t' := s.toks) old2
  have hDge : s.heap.objs.size ≤ D := dge
  have fD : FpOk X pins H D := I.fpOk hDge (I.hok.fresh hDge)
  have fK : FpOk X pins H kS := I.fpOk hKge (I.hok.fresh hKge)
  have repin : ∀ {H' : Hp} {t : Shared} {kA : Array Value} {e : Nat}, Inv X pins σ H' t → t.heap.get? D = some (seqObj "list" #[] e1) → H' D = none → t.heap.get? kS = some (seqObj "list" kA e) → H' kS = none → Inv X (pins ++ [(D, seqObj "list" #[] e1), (kS, seqObj "list" kA e)]) σ H' t := by
    intro H' t kA e J d1 d2 k1 k2
    refine J.pins_of fun p hp => ?_
    rcases List.mem_append.mp hp with h | h
    · exact J.pin p (List.mem_append_right _ h)
    · rcases List.mem_cons.mp h with rfl | h
      · exact ⟨d1, d2, fD.2.1, fD.2.2.1, fun v => by simp [seqObj]⟩
      · rw [List.mem_singleton.mp h]
        exact ⟨k1, k2, fK.2.1, fK.2.2.1, fun v => by simp [seqObj]⟩
  unfold ksk_rest
  refine wpAny_bind (wpAny_rule ?_)
  first
    | rw [List.forIn_toArray]
    | (rw [← Array.forIn_toList]; simp only [List.toList_toArray])
    | rw [← Array.forIn_toList]
  refine wpAny_bind (ksk_fold (fun i t => ∃ H' kA e, Ex H H' ∧ Inv X (pins ++ [(D, seqObj "list" #[] e1), (kS, seqObj "list" kA e)]) σ H' t ∧ EachIs IsT kA.toList (ys.take i)) its 0 { s with heap := hh } ⟨H, #[], 0, Ex.refl H, repin I2 hD2 fD.1 hK fK.1, by rw [List.take_zero]; exact .nil⟩ ?turn ?over)
  case turn =>
    rintro j x t hx ⟨H', kA, e, hex, J, hk⟩
    simp only [Nat.zero_add] at hk ⊢
    obtain ⟨z, hz1, tz, rfl⟩ := each_at hev hx
    have hj : j < its.length := (List.getElem?_eq_some_iff.mp hx).1
    have hkz : kA.size ≤ its.length := by
      have h1 := hk.length
      rw [Array.length_toList, List.length_take] at h1
      omega
    have call1 : wpAny (model X.prog X.w) X.A.in1.in1 (call (.ref f) [.str (S z) tz]) (EP X (pins ++ [(D, seqObj "list" #[] e1), (kS, seqObj "list" kA e)]) σ fun v H2 => v = .str (S z) ∧ Ex H' H2) (fun _ _ => False) t := by
      have rx : Vals [V.str (S z)] [Value.str (S z) tz] := .cons ⟨tz, rfl⟩ .nil
      have hsp : spId X.K [V.str (S z)] H' (fun v H2 => v = .str (S z) ∧ Ex H' H2) E0 := ⟨z, trivial, .cons rfl .nil, fun v H2 ee hv => ⟨hv, ee⟩⟩
      have bd := hb t [.str (S z) tz] J.kIn rfl
      refine wpAny_call (codeAny_mono (F.run X.A.in1.in1 X.stack t H' ⟨[.str (S z) tz], []⟩ _ _ _ E0 hr2 J.env0.in1.in1 bd rx hsp) fun r t' hq => ?_)
      cases r with
      | error e => exact hq.elim
      | ok fl =>
        cases fl with
        | ret u => exact J.after hq
        | next => exact hq.elim
        | brk => exact hq.elim
        | cont => exact hq.elim
    refine wpAny_bind (wpAny_attempt (wpAny_mono call1 (fun u t2 hu => ?_) fun _ _ hF => False.elim hF))
    obtain ⟨v, H2, J2, ru, rfl, hex2⟩ := hu
    obtain ⟨tu, rfl⟩ := ru
    have pD := J2.pin (D, seqObj "list" #[] e1) (List.mem_append_right _ (List.mem_append_right _ (.head _)))
    have pK := J2.pin (kS, seqObj "list" kA e) (List.mem_append_right _ (List.mem_append_right _ (.tail _ (.head _))))
    try dsimp only
    obtain ⟨c2, hc2⟩ : ∃ c2, (t2.heap.update kS (Obj.mapSeq (·.push (.str (S z) tu)))).get? kS = some (seqObj "list" (kA.push (.str (S z) tu)) c2) := ⟨_, get?_update_seq pK.1 (·.push _)⟩
    have keepK : ∀ b o, b ∉ [kS] → t2.heap.get? b = some o → (t2.heap.update kS (Obj.mapSeq (·.push (.str (S z) tu)))).get? b = some o := fun b o hb ho => (Heap.get?_update_ne _ _ _ _ (fun z => hb (by rw [z]; exact .head _))).trans ho
    have hsz2 : (kA.push (.str (S z) tu)).size ≤ sizeLine + 1 := by
      rw [Array.size_push]
      omega
    refine wpAny_bind (listUpdate_at pK.1 rfl ?_ (by omega) hsz2)
    refine wpAny_pure ⟨rfl, H2, kA.push (.str (S z) tu), c2, hex.trans hex2, ?_, ?_⟩
    · refine repin (Inv.turnedL (t' := t2.toks) J2.unpinned keepK (fun b hb => ?_)) ?_ pD.2.1 hc2 pK.2.1
      · rw [List.mem_singleton.mp hb]
        exact ⟨pK.2.1, fK.2⟩
      · exact keepK D _ (fun h => hDK (List.mem_singleton.mp h)) pD.1
    · have ek : ys.take (j + 1) = ys.take j ++ [z] := by rw [List.take_add_one, hz1]; rfl
      rw [ek, Array.toList_push]
      exact each_more ⟨tu, rfl⟩ hk
  case over =>
    rintro t ⟨H', kA, e, hex, J, hk⟩
    have e3 : ys.take (0 + its.length) = ys := List.take_of_length_le (by omega)
    rw [e3] at hk
    have hsz : kA.size = its.length := by
      have h1 := hk.length
      rw [Array.length_toList] at h1
      omega
    have pD := J.pin (D, seqObj "list" #[] e1) (List.mem_append_right _ (List.mem_append_right _ (.head _)))
    have pK := J.pin (kS, seqObj "list" kA e) (List.mem_append_right _ (List.mem_append_right _ (.tail _ (.head _))))
    try dsimp only
    refine wpAny_bind (listItems_at pK.1 rfl ?_)
    have alk : AllAlike (ys.map fun z => PyData.str (S z)) := AllAlike.of fun _ _ => rfl
    have srt : Sortable (ys.map fun z => PyData.str (S z)) := Sortable.others fun z => ⟨by simp, fun xs => by simp⟩
    have dep : ∀ d, d ∈ ys.map (fun z => PyData.str (S z)) → X.A.in1.in1.units + d.depth < cLine := fun d hd => by
      obtain ⟨z, _, rfl⟩ := List.mem_map.mp hd
      show X.A.in1.in1.units + 0 < cLine
      omega
    have rd := reads_of_each (hp := t.heap) hk
    have kb : KeepsBut D (less t.heap kS) t.heap := fun c o hc ho => by
      have hck : c ≠ kS := fun z => by rw [z, less_at pK.1] at ho; cases ho
      rw [less_ne hck] at ho
      exact ho
    refine keyH_end (κ := dataKind t.heap (ys.map fun z => PyData.str (S z))) (h₁ := less t.heap kS) kb (less_at pK.1) pK.1 pD.1 (Ne.symm hDK) (SortsAt.data rd alk srt dep) hsz hZ fun h4 tk c k4 n4 => ⟨rfl, ?_⟩
    have out1 : EachIs IsT (sortVals (dataKind t.heap (ys.map fun z => PyData.str (S z))) b kA.toList its) (ys.mergeSort (dataLe b fun z => PyData.str (S z))) := keyedOut_each (rev := b) (fun z => PyData.str (S z)) ⟨t.heap, kA.toList, alk, rfl, rd⟩ hev
    rw [dataLe_S] at out1
    have keep4 : ∀ c o, c ∉ [kS, D] → t.heap.get? c = some o → h4.get? c = some o := fun c o hc ho => by
      refine k4 c o (fun z => hc (by rw [z]; simp)) ?_
      rw [less_ne (fun z => hc (by rw [z]; simp))]
      exact ho
    have hlen4 : (vss ((ordd b ys).map S)).length ≤ sizeLine := by
      unfold vss ordd
      rw [List.length_map, List.length_map, List.length_mergeSort]
      omega
    have J4 : Inv X pins σ (upd H' D (.lst (vss ((ordd b ys).map S)))) { t with heap := h4, toks := tk } := by
      refine inv_track J.unpinned keep4 (fun c hc => ?_) (by simp) ⟨hlen4, _, c, vals_of_each out1, n4⟩
      rcases List.mem_cons.mp hc with rfl | hc
      · exact ⟨pK.2.1, fK.2⟩
      · rw [List.mem_singleton.mp hc]
        exact ⟨pD.2.1, fD.2⟩
    exact ⟨.ref D, _, J4, rfl, q H' D hex pD.2.1⟩

/-- sorted(e, key=f[, reverse=True]), f a def of the text -/
def rSortD (K : PySem.W.Frag) (b : Bool) (vs : List V) (H : Hp) (Q : VK) : Prop := ∃ (a : Addr) (ys : List (List Nat)), vs = [.ref a] ∧ SqL K H a (vss (ys.map S)) ∧ ∀ H2 p, Ex H H2 → H2 p = none → Q (.ref p) (upd H2 p (.lst (vss ((ordd b ys).map S))))
def tSortD (K : PySem.W.Frag) (b : Bool) (t : TE) : TE := fun σ H Q => tCons t tNil σ H fun vs H1 => rSortD K b vs H1 Q
section
variable {X : Cx} {k : Nat} {x pn : Str} {p px pos k1 k2 : Pos} {e : Expr} {t : TE}
theorem pe_sortD (F : Has X.prog X.w X.K X.mg X.base k x [pn] (spId X.K)) (hr : Room (k + 2) X.A) (hg : Gl X "sorted") (hm : X.mg "sorted" = none) (hgx : Gl X x) (he : PA X [e] (tCons t tNil)) (hdb : (x == ("__debug__" : Str)) = false := by decide)
    (hs : backTo pos (starEach [e] X.env) = (false, eval e X.env) :: backTo pos (starEach [] X.env) := by rfl) (hpl : (backTo pos (starEach [e] X.env)).any (·.1) = false := by rfl)
    (hall : (backToKw pos (keywordEach [⟨some "key", .Name x px, k1⟩] X.env)).all (·.1.isSome) = true := by rfl) (hnone : (backToKw pos (keywordEach [⟨some "key", .Name x px, k1⟩] X.env)).any (·.1.isNone) = false := by rfl) (hks : (backToKw pos (keywordEach [⟨some "key", .Name x px, k1⟩] X.env)).filterMap (·.1) = [Str.ofString "key"] := by rfl) :
    PE X (.Call (.Name "sorted" p) [e] [⟨some "key", .Name x px, k1⟩] pos) (tSortD X.K false t) := by
  obtain ⟨f, fd, hmx, hk, F, hb, _⟩ := F.ex
  have hc : CallRK X (.builtin "sorted") [Str.ofString "key"] (fun vs zs H Q => zs = [.ref f] ∧ rSortD X.K false vs H Q) := by
    rintro pins s σ H vs zs us ws Q I r rz ⟨rfl, a, ys, rfl, hs, q⟩
    obtain rfl := Vals.ref1 r
    obtain ⟨w1, rfl, e1⟩ := vals1 rz
    obtain rfl : w1 = Value.ref f := e1
    exact sorted_def (b := false) F hb hr I hs (ksk_s1 _ _) (fun _ => ksk_l1 _ _) (fun x => ksk_t1 f x) q
  have P1 := pe_callBK (p := p) (pos := pos) hc hg hm (by rfl) he (pk_cons (pe_glob (pos := px) (v := .ref f) hgx hmx rfl hdb) pk_nil) (by decide) (by decide) hs hpl hall hnone hks
  refine ⟨fun pins s σ H Q I h => P1.run pins s σ H Q I ?_⟩
  show tCons t tNil σ H fun vs H1 => ([V.ref f] = [V.ref f]) ∧ rSortD X.K false vs H1 Q
  have e0 : (fun vs H1 => ([V.ref f] = [V.ref f]) ∧ rSortD X.K false vs H1 Q) = fun vs H1 => rSortD X.K false vs H1 Q := by
    funext vs H1
    simp
  rw [e0]
  exact h
theorem pe_sortDR (F : Has X.prog X.w X.K X.mg X.base k x [pn] (spId X.K)) (hr : Room (k + 2) X.A) (hg : Gl X "sorted") (hm : X.mg "sorted" = none) (hgx : Gl X x) (he : PA X [e] (tCons t tNil)) {pb : Pos} {kb : Nat} (hdb : (x == ("__debug__" : Str)) = false := by decide)
    (hs : backTo pos (starEach [e] X.env) = (false, eval e X.env) :: backTo pos (starEach [] X.env) := by rfl) (hpl : (backTo pos (starEach [e] X.env)).any (·.1) = false := by rfl)
    (hall : (backToKw pos (keywordEach [⟨some "key", .Name x px, k1⟩, ⟨some "reverse", .Constant (.bool true) kb pb, k2⟩] X.env)).all (·.1.isSome) = true := by rfl) (hnone : (backToKw pos (keywordEach [⟨some "key", .Name x px, k1⟩, ⟨some "reverse", .Constant (.bool true) kb pb, k2⟩] X.env)).any (·.1.isNone) = false := by rfl) (hks : (backToKw pos (keywordEach [⟨some "key", .Name x px, k1⟩, ⟨some "reverse", .Constant (.bool true) kb pb, k2⟩] X.env)).filterMap (·.1) = [Str.ofString "key", Str.ofString "reverse"] := by rfl) :
    PE X (.Call (.Name "sorted" p) [e] [⟨some "key", .Name x px, k1⟩, ⟨some "reverse", .Constant (.bool true) kb pb, k2⟩] pos) (tSortD X.K true t) := by
  obtain ⟨f, fd, hmx, hk, F, hb, _⟩ := F.ex
  have hc : CallRK X (.builtin "sorted") [Str.ofString "key", Str.ofString "reverse"] (fun vs zs H Q => zs = [.ref f, .bl true] ∧ rSortD X.K true vs H Q) := by
    rintro pins s σ H vs zs us ws Q I r rz ⟨rfl, a, ys, rfl, hs, q⟩
    obtain rfl := Vals.ref1 r
    obtain ⟨w1, w2, rfl, e1, e2⟩ := vals2 rz
    obtain rfl : w1 = Value.ref f := e1
    obtain rfl : w2 = Value.bool true := e2
    exact sorted_def (b := true) F hb hr I hs (ksk_s2 _ _ _) (fun _ => ksk_l2 _ _ _) (fun x => ksk_t2 f x true) q
  have P1 := pe_callBK (p := p) (pos := pos) hc hg hm (by rfl) he (pk_cons (pe_glob (pos := px) (v := .ref f) hgx hmx rfl hdb) (pk_cons pe_bl pk_nil)) (by decide) (by decide) hs hpl hall hnone hks
  refine ⟨fun pins s σ H Q I h => P1.run pins s σ H Q I ?_⟩
  show tCons t tNil σ H fun vs H1 => ([V.ref f, V.bl true] = [V.ref f, V.bl true]) ∧ rSortD X.K true vs H1 Q
  have e0 : (fun vs H1 => ([V.ref f, V.bl true] = [V.ref f, V.bl true]) ∧ rSortD X.K true vs H1 Q) = fun vs H1 => rSortD X.K true vs H1 Q := by
    funext vs H1
    simp
  rw [e0]
  exact h
end
section
variable {K : PySem.W.Frag} {σ : L2.St} {H : Hp} {te : TE}
theorem er_sortD {b : Bool} {ys : List (List Nat)} (h : Er K te σ H (.l (vss (ys.map S)))) : Er K (tSortD K b te) σ H (.n (vss ((ordd b ys).map S))) := fun H1 e Q q =>
  h H1 e _ fun v H2 e2 ⟨a, ea, ha⟩ => ⟨a, ys, by rw [ea], ha, fun H3 p e3 hp => q _ _ ((e2.trans e3).trans (Ex.new hp)) ⟨p, rfl, upd_same⟩⟩
end
end Mi

set_option maxHeartbeats 2000000
namespace Mi
open PySem PySem.Spec PyProof.Rows L2 Evl
abbrev vsl (L : List (List Nat)) : List V := vss (L.map S)
theorem vsl_len (L : List (List Nat)) : (vsl L).length = L.length := by simp [vss]
theorem vsl_app (L : List (List Nat)) (l : List Nat) : vsl (L ++ [l]) = vsl L ++ [.str (S l)] := by
  rw [vsl, List.map_append, vss, List.map_append]
  rfl
theorem vsl_at {L : List (List Nat)} {i : Nat} {x : V} (h : (vsl L)[i]? = some x) : ∃ l, L[i]? = some l ∧ V.str (S l) = x := by
  rw [List.getElem?_map, List.getElem?_map] at h
  cases q : L[i]? with
  | none => rw [q] at h; cases h
  | some l => rw [q] at h; exact ⟨l, rfl, Option.some.inj h⟩
section
variable {K : PySem.W.Frag} {σ : L2.St} {H H0 H' : Hp} {te ta tb : TE} {t u : TT} {a b : Bool} {d d' : Dd} {D : Ends} {tu tw tz : TS} {x y : V}
theorem a_ifSetS {i : Nat} {c e : List Nat} (h : Et K t σ H b) (h1 : b = true → Er K te σ H (.s (S c))) (h2 : σ.set i (some (.str (S e))) = σ) (k : ∀ H1, Ex H H1 → tz D (σ.set i (some (.str (S (if b = true then c else e))))) H1) : tSeq (tIfS t (tAsg te (gName i)) tNext) tz D σ H :=
  a_ifAsg (x := .str (S (if b = true then c else e))) h (fun hb => by rw [if_pos hb]; exact h1 hb) (fun hb => by rw [if_neg (by rw [hb]; exact Bool.false_ne_true)]; exact h2) k
theorem ro_ixSS {L : List (List Nat)} {i : Int} (h0 : 0 ≤ i) (h1 : i < L.length) : Ro K (rIxL K) (.l (vsl L)) (.v (.int i)) (.v (.str (S (L.getD i.toNat [])))) := by
  refine ro_ixL h0 ?_
  have h2 : i.toNat < L.length := by omega
  rw [List.getElem?_map, List.getElem?_map, List.getD_eq_getElem?_getD, List.getElem?_eq_getElem h2]
  rfl
theorem ro_ixSN {L : List (List Nat)} {i : Int} (h0 : 0 ≤ i) (h1 : i < L.length) : Ro K (rIxL K) (.n (vsl L)) (.v (.int i)) (.v (.str (S (L.getD i.toNat [])))) := fun v w H1 a b => ro_ixSS h0 h1 v w H1 a.n2l b
theorem rc_lenLL {L : List (List Nat)} : Rc K (rLenS K) [.l (vsl L)] (.v (.int (L.length : Int))) := by
  have h := rc_lenT (K := K) (ns := L.map S)
  rw [List.length_map] at h
  exact h
theorem rc_lenLN {L : List (List Nat)} : Rc K (rLenS K) [.n (vsl L)] (.v (.int (L.length : Int))) := by
  have h := rc_lenTN (K := K) (ns := L.map S)
  rw [List.length_map] at h
  exact h
/-- [n] * k -/
theorem er_same {n : Int} {k : Nat} (h : Er K te σ H (.i n)) (hk : k ≤ 1000) : Er K (tOp rRep (tLst (tCons te tNil)) (tC (.int (k : Int)))) σ H (.n (vis (List.replicate k n))) := by
  have e : vis (List.replicate k n) = (List.replicate k [V.int n]).flatten := by
    rw [vis, List.map_replicate, List.flatten_replicate_singleton]
  rw [e]
  exact er_op (er_lst (vs := [.int n]) (era_cons h era_nil) (by simp)) er_c (ro_rep (by simp; omega) (by omega))
end
theorem getD_memL {α : Type} {l : List α} {k : Nat} {z : α} (h : k < l.length) : l.getD k z ∈ l := by
  rw [List.getD_eq_getElem?_getD, List.getElem?_eq_getElem h]
  exact List.getElem_mem h
theorem getD_sz {l : List Int} {k : Nat} (h : k < l.length) : l.getD k 0 = l[k] := by
  rw [List.getD_eq_getElem?_getD, List.getElem?_eq_getElem h]
  rfl
end Mi

set_option maxHeartbeats 2000000
namespace Mi
open PySem PySem.Spec PyProof.Rows L2 Evl
section
variable {K : PySem.W.Frag} {σ : L2.St} {H H0 H' : Hp} {te ta tb : TE} {t u : TT} {a b : Bool} {d d' : Dd} {D : Ends} {tu tw tz : TS} {x y : V}
/-- if c: x = e else: x = f, both of one kind -/
theorem a_ifElse {i : Nat} (h : Et K t σ H b) (h1 : b = true → Er K ta σ H d) (h2 : b = false → Er K tb σ H d) (k : ∀ v H1, Ex H H1 → Is K H1 d v → tz D (σ.set i (some v)) H1) : tSeq (tIfS t (tAsg ta (gName i)) (tAsg tb (gName i))) tz D σ H :=
  a_if h (fun hb H1 e1 => a_asg1 (D := { D with nx := tz D }) ((h1 hb).mono e1) fun v H2 e2 z => k v H2 (e1.trans e2) z) (fun hb H1 e1 => a_asg1 (D := { D with nx := tz D }) ((h2 hb).mono e1) fun v H2 e2 z => k v H2 (e1.trans e2) z)
/-- a loop over a tuple that stands at l -/
theorem b_forU {l : Addr} {xs : List V} {tl : TE} {j : Nat} (h : Er K tl σ H (.v (.ref l))) (hx : SqT K H l xs) (Pv : Nat → L2.St → Hp → Prop) (h0 : ∀ H1, Ex H H1 → Pv 0 σ H1) (hl : ∀ i σ' H', i ≤ xs.length → Pv i σ' H' → SqT K H' l xs)
    (hs : ∀ i x σ' H', xs[i]? = some x → Pv i σ' H' → tu { D with nx := Pv (i + 1), ct := Pv (i + 1), bk := tz D } (σ'.set j (some x)) H') (hd : ∀ σ' H', Pv xs.length σ' H' → tz D σ' H') : tSeq (tFor (iTup K tl) (gName j) tu) tz D σ H :=
  h H (Ex.refl H) _ fun v H1 e z => by
    have ez : v = .ref l := z
    subst ez
    exact ⟨l, rfl, ⟨xs, ex_t e hx⟩, for_tup (D := { D with nx := tz D }) Pv (h0 H1 e) hl hs hd⟩
/-- a place of a list that was made here -/
theorem er_pos {xs : List V} {n : Nat} (h : Er K te σ H (.n xs)) (hx : xs[n]? = some x) : Er K (tOp (rIxL K) te (tC (.int (n : Int)))) σ H (.v x) :=
  er_op h er_c (ro_ixN (by omega) (by rw [Int.toNat_natCast]; exact hx))
end
theorem zipIdx_range (l : List Nat) : l.zipIdx = (List.range l.length).map fun k => (l.getD k 0, k) := by
  refine List.ext_getElem (by simp) fun i h1 h2 => ?_
  simp at h1 h2 ⊢
  rw [List.getElem?_eq_getElem (by omega)]
  rfl
end Mi

set_option maxHeartbeats 2000000
namespace Mi
open PySem PySem.Spec PyProof.Rows L2 Evl
theorem isAll_at {K : PySem.W.Frag} {H : Hp} : ∀ {ds : List Dd} {vs : List V} {i : Nat} {v : V}, IsAll K H ds vs → vs[i]? = some v → ∃ d, ds[i]? = some d ∧ Is K H d v
  | [], _, i, v, h, e => by cases h; simp at e
  | d :: ds, _, 0, v, h, e => by
    cases h with
    | cons a b => exact ⟨d, rfl, Option.some.inj e ▸ a⟩
  | d :: ds, _, i + 1, v, h, e => by
    cases h with
    | cons a b => exact isAll_at (i := i) b e
section
variable {K : PySem.W.Frag} {σ : L2.St} {H H0 H' : Hp} {te ta tb tc : TE} {t u : TT} {tr : TA} {a b : Bool} {d e d1 d2 : Dd} {D : Ends} {tu tw tz : TS} {x y : V}
/-- a loop over a list that is written out, its items of any kind -/
theorem a_forD {dss : List Dd} {j : Nat} (h : Era K tr σ H dss) (hz : dss.length ≤ 100000) (Pv : Nat → L2.St → Hp → Prop) (h0 : ∀ H1, Ex H H1 → Pv 0 σ H1)
    (hs : ∀ H1, Ex H H1 → ∀ i d v σ' H', dss[i]? = some d → (∀ H2, Ex H1 H2 → Is K H2 d v) → Pv i σ' H' → Ex H1 H' → tu { D with nx := fun σ2 H2 => Pv (i + 1) σ2 H2 ∧ Ex H1 H2, ct := fun σ2 H2 => Pv (i + 1) σ2 H2 ∧ Ex H1 H2, bk := D.nx } (σ'.set j (some v)) H')
    (hd : ∀ σ' H', Pv dss.length σ' H' → D.nx σ' H') : tFor (iList K (tLst tr)) (gName j) tu D σ H :=
  h H (Ex.refl H) _ fun vs H1 e1 z => by
    have len := z.len
    refine ⟨sz_of (by omega), fun p hp => ⟨p, rfl, ⟨vs, sq_of upd_same⟩, ?_⟩⟩
    have e2 : Ex H1 (upd H1 p (.lst vs)) := Ex.new hp
    have hq : (upd H1 p (.lst vs)) p = some (.lst vs) := upd_same
    have z2 := z.mono e2
    refine for_list (xs := vs) (fun i σ' H' => Pv i σ' H' ∧ Ex (upd H1 p (.lst vs)) H') ⟨h0 _ (e1.trans e2), Ex.refl _⟩ (fun i σ' H' _ q => sq_of (q.2 p _ hq)) (fun i v σ' H' hv q => ?_) fun σ' H' q => hd σ' H' (by rw [len]; exact q.1)
    obtain ⟨d, hd', hi⟩ := isAll_at z2 hv
    exact hs _ (e1.trans e2) i d v σ' H' hd' (fun H2 e3 => hi.mono e3) q.1 q.2
/-- [a, b][i], a and b of any kind -/
theorem er_pickD {i : Int} (h1 : Er K ta σ H d1) (h2 : Er K tb σ H d2) (hc : Er K tc σ H (.i i)) (hi : i = 0 ∨ i = 1) : Er K (tOp (rIxL K) (tLst (tCons ta (tCons tb tNil))) tc) σ H (if i = 0 then d1 else d2) := fun H1 e Q q =>
  h1 H1 e _ fun v1 H2 e2 z1 => h2 H2 (e.trans e2) _ fun v2 H3 e3 z2 => ⟨sz_of (by simp), fun p hp => by
    have e4 : Ex H3 (upd H3 p (.lst [v1, v2])) := Ex.new hp
    have hq : (upd H3 p (.lst [v1, v2])) p = some (.lst [v1, v2]) := upd_same
    refine hc _ (((e.trans e2).trans e3).trans e4) _ fun v H4 e5 z => ?_
    have ez : v = .int i := z
    subst ez
    rcases hi with rfl | rfl
    · exact ⟨p, [v1, v2], 0, v1, rfl, rfl, sq_of (e5 p _ hq), rfl, q _ _ (((e2.trans e3).trans e4).trans e5) (((z1.mono e3).mono e4).mono e5)⟩
    · exact ⟨p, [v1, v2], 1, v2, rfl, rfl, sq_of (e5 p _ hq), rfl, q _ _ (((e2.trans e3).trans e4).trans e5) ((z2.mono e4).mono e5)⟩⟩
/-- if c: x = e, values of any kind -/
theorem a_ifSetD {i : Nat} {v : V} (h : Et K t σ H b) (h1 : b = true → Er K te σ H d) (h2 : σ.set i (some v) = σ) (hv : Is K H e v) (k : ∀ w H1, Ex H H1 → Is K H1 (if b = true then d else e) w → tz D (σ.set i (some w)) H1) : tSeq (tIfS t (tAsg te (gName i)) tNext) tz D σ H :=
  a_when h (fun hb H1 e1 => a_asg1 (D := { D with nx := tz D }) ((h1 hb).mono e1) fun w H2 e2 z => k w H2 (e1.trans e2) (by rw [if_pos hb]; exact z)) (fun hb H1 e1 => by
    have g := k v H1 e1 (by rw [if_neg (by rw [hb]; exact Bool.false_ne_true)]; exact hv.mono e1)
    rw [h2] at g
    exact g)
end
theorem fnR {P : Program} {w : World} {K : PySem.W.Frag} {mg : Str → Option Value} {base : Heap} {x : Str} {st : Stmt} {f0 : Addr} {fd : FuncData} {N ps : List Str} {k : Nat} {T : Type} {pre : T → Prop} {args : T → List Dd} {ret : T → Dd}
    (F : Fun K x x st f0 fd) (Sc : FnScope N ps (defScope st)) (hl : ∀ a, (args a).length = ps.length)
    (hbody : ∀ (f : Addr) (cdv : Value) (A : Around) (outer : List Env) (s : Shared) (H : Hp) (a : T) (vs : List V) (Q : VK) (E : XK), Room k (A.deeper (envOfC x (defScope st) s.heap.objs.size f cdv)) → pre a → IsAll K H (args a) vs → (∀ v H', Ex H H' → Is K H' (ret a) v → Q v H') →
      ∃ t, PSs (cxOf CX0 P w K mg base N x (defScope st) f cdv A outer s H E).nox (defBody st) t ∧ t { nx := fun _ H' => Q .non H', rt := Q } (start N vs) H) :
    FnOk P w K mg base CX0 (k + 1) f0 fd ps (spR K pre args ret) :=
  F.ok Sc (fun vs H Q E hsp => by
    obtain ⟨a, _, hv, _⟩ := hsp
    rw [← hv.len, hl]) (fun cdv A outer s H vs Q E hr hsp => by
    obtain ⟨a, hp, hv, hk⟩ := hsp
    exact hbody f0 cdv A outer s H a vs Q E hr hp hv hk)
end Mi

set_option maxHeartbeats 2000000
namespace Mi
open PySem PySem.Spec PyProof.Rows L2 Evl
/-! ### lists and tuples whose items are told one by one -/
section
variable {K : PySem.W.Frag} {H H' : Hp}
theorem isE_all : ∀ {ds : List Dd} {vs : List V}, IsE K H ds vs ↔ IsAll K H ds vs
  | [], vs => ⟨fun h => by rw [show vs = [] from h]; exact .nil, fun h => by cases h; rfl⟩
  | d :: ds, vs => ⟨fun h => by
      obtain ⟨x, r, rfl, a, b⟩ := h
      exact .cons a (isE_all.mp b), fun h => by
      cases h with
      | cons a b => exact ⟨_, _, rfl, a, isE_all.mpr b⟩⟩
theorem isE_len {ds : List Dd} {vs : List V} (h : IsE K H ds vs) : ds.length = vs.length := (isE_all.mp h).len
theorem isE_app : ∀ {as bs : List Dd} {us vs : List V}, IsE K H as us → IsE K H bs vs → IsE K H (as ++ bs) (us ++ vs)
  | [], _, us, _, h, g => by rw [show us = [] from h]; exact g
  | d :: ds, _, us, _, h, g => by
    obtain ⟨x, r, rfl, a, b⟩ := h
    exact ⟨x, _, rfl, a, isE_app b g⟩
theorem isE_take : ∀ {ds : List Dd} {vs : List V} (n : Nat), IsE K H ds vs → IsE K H (ds.take n) (vs.take n)
  | _, vs, 0, _ => by
    rw [List.take_zero, List.take_zero]
    rfl
  | [], vs, n + 1, h => by rw [show vs = [] from h]; rfl
  | d :: ds, vs, n + 1, h => by
    obtain ⟨x, r, rfl, a, b⟩ := h
    exact ⟨x, _, rfl, a, isE_take n b⟩
theorem isE_drop : ∀ {ds : List Dd} {vs : List V} (n : Nat), IsE K H ds vs → IsE K H (ds.drop n) (vs.drop n)
  | _, vs, 0, h => h
  | [], vs, n + 1, h => by rw [show vs = [] from h]; rfl
  | d :: ds, vs, n + 1, h => by
    obtain ⟨x, r, rfl, a, b⟩ := h
    exact isE_drop n b
theorem isE_at {ds : List Dd} {vs : List V} {i : Nat} {d : Dd} (h : IsE K H ds vs) (hd : ds[i]? = some d) : ∃ v, vs[i]? = some v ∧ Is K H d v := by
  have hl := isE_len h
  have hi : i < vs.length := by
    have := (List.getElem?_eq_some_iff.mp hd).1
    omega
  obtain ⟨d', e1, e2⟩ := isAll_at (isE_all.mp h) (List.getElem?_eq_getElem hi)
  rw [hd] at e1
  exact ⟨_, List.getElem?_eq_getElem hi, Option.some.inj e1 ▸ e2⟩
theorem isE_v : ∀ {xs : List V} {vs : List V}, IsE K H (xs.map Dd.v) vs ↔ vs = xs
  | [], vs => Iff.rfl
  | x :: xs, vs => ⟨fun h => by
      obtain ⟨y, r, rfl, a, b⟩ := h
      rw [isE_v.mp b, show y = x from a], fun h => by
      rw [h]
      exact ⟨x, xs, rfl, rfl, isE_v.mpr rfl⟩⟩
theorem Is.N2L {ds : List Dd} {x : V} (h : Is K H (.N ds) x) : Is K H (.L ds) x := by
  obtain ⟨p, vs, e, q, r⟩ := h
  exact ⟨p, vs, e, sq_of q, r⟩
theorem Is.n2N {xs : List V} {x : V} (h : Is K H (.n xs) x) : Is K H (.N (xs.map Dd.v)) x := by
  obtain ⟨p, e, q⟩ := h
  exact ⟨p, xs, e, q, isE_v.mpr rfl⟩
theorem Is.N2n {xs : List V} {x : V} (h : Is K H (.N (xs.map Dd.v)) x) : Is K H (.n xs) x := by
  obtain ⟨p, vs, e, q, r⟩ := h
  rw [isE_v.mp r] at q
  exact ⟨p, e, q⟩
theorem Is.L2l {xs : List V} {x : V} (h : Is K H (.L (xs.map Dd.v)) x) : Is K H (.l xs) x := by
  obtain ⟨p, vs, e, q, r⟩ := h
  rw [isE_v.mp r] at q
  exact ⟨p, e, q⟩
theorem Is.l2L {xs : List V} {x : V} (h : Is K H (.l xs) x) : Is K H (.L (xs.map Dd.v)) x := by
  obtain ⟨p, e, q⟩ := h
  exact ⟨p, xs, e, q, isE_v.mpr rfl⟩
theorem Is.U2u {xs : List V} {x : V} (h : Is K H (.U (xs.map Dd.v)) x) : Is K H (.u xs) x := by
  obtain ⟨p, vs, e, q, r⟩ := h
  rw [isE_v.mp r] at q
  exact ⟨p, e, q⟩
theorem Is.u2U {xs : List V} {x : V} (h : Is K H (.u xs) x) : Is K H (.U (xs.map Dd.v)) x := by
  obtain ⟨p, e, q⟩ := h
  exact ⟨p, xs, e, q, isE_v.mpr rfl⟩
end
section
variable {K : PySem.W.Frag} {σ : L2.St} {H H0 H' : Hp} {te ta tb tc : TE} {t u : TT} {tr : TA} {a b : Bool} {d e d1 d2 : Dd} {D : Ends} {tu tw tz : TS} {x y : V} {ds es : List Dd}
theorem Er.as (h : Er K te σ H d) (f : ∀ H1 v, Is K H1 d v → Is K H1 e v) : Er K te σ H e := fun H1 x Q q => h H1 x Q fun v H2 e2 z => q v H2 e2 (f H2 v z)
theorem Er.N2L (h : Er K te σ H (.N ds)) : Er K te σ H (.L ds) := h.as fun _ _ z => z.N2L
theorem er_N (h : Era K tr σ H ds) (hl : ds.length ≤ 100000) : Er K (tLst tr) σ H (.N ds) := fun H1 e1 _ q =>
  h H1 e1 _ fun ws H2 e2 z => ⟨sz_of (by rw [← z.len]; exact hl), fun p hp => q _ _ (e2.trans (Ex.new hp)) ⟨p, ws, rfl, upd_same, isE_all.mpr (z.mono (Ex.new hp))⟩⟩
theorem er_U (h : Era K tr σ H ds) (hl : ds.length ≤ 100000) : Er K (tTup tr) σ H (.U ds) := fun H1 e1 _ q =>
  h H1 e1 _ fun ws H2 e2 z => ⟨sz_of (by rw [← z.len]; exact hl), fun p hp => q _ _ (e2.trans (Ex.new hp)) ⟨p, ws, rfl, st_of upd_same, isE_all.mpr (z.mono (Ex.new hp))⟩⟩
theorem ro_ixLd {i : Nat} (hd : ds[i]? = some d) : Ro K (rIxL K) (.L ds) (.i (i : Int)) d := by
  rintro _ _ H1 ⟨p, vs, rfl, hp, hE⟩ rfl Q q
  obtain ⟨v, hv, z⟩ := isE_at hE hd
  exact ⟨p, vs, (i : Int), v, rfl, rfl, hp, atI_nat hv, q _ H1 (Ex.refl H1) z⟩
theorem ro_ixNd {i : Nat} (hd : ds[i]? = some d) : Ro K (rIxL K) (.N ds) (.i (i : Int)) d := fun v w H1 a b => ro_ixLd hd v w H1 a.N2L b
theorem ro_ixUd {i : Nat} (hd : ds[i]? = some d) : Ro K (rIxT K) (.U ds) (.i (i : Int)) d := by
  rintro _ _ H1 ⟨p, vs, rfl, hp, hE⟩ rfl Q q
  obtain ⟨v, hv, z⟩ := isE_at hE hd
  exact ⟨p, vs, (i : Int), v, rfl, rfl, hp, atI_nat hv, q _ H1 (Ex.refl H1) z⟩
theorem rc_lenLd : Rc K (rLenS K) [.L ds] (.i (ds.length : Int)) := by
  rintro _ H1 (_ | ⟨⟨p, vs, rfl, hp, hE⟩, _ | _⟩) Q q
  exact ⟨p, vs, rfl, .inl hp, q _ H1 (Ex.refl H1) (by rw [isE_len hE]; rfl)⟩
theorem rc_lenNd : Rc K (rLenS K) [.N ds] (.i (ds.length : Int)) := fun vs H1 h Q q => by
  cases h with
  | cons a b => exact rc_lenLd _ H1 (.cons a.N2L b) Q q
theorem rc_lenUd : Rc K (rLenS K) [.U ds] (.i (ds.length : Int)) := by
  rintro _ H1 (_ | ⟨⟨p, vs, rfl, hp, hE⟩, _ | _⟩) Q q
  exact ⟨p, vs, rfl, .inr hp, q _ H1 (Ex.refl H1) (by rw [isE_len hE]; rfl)⟩
theorem ro_catd (h : ds.length + es.length ≤ 100000) : Ro K rCat (.N ds) (.N es) (.N (ds ++ es)) := by
  rintro _ _ H1 ⟨p, us, rfl, hp, h1⟩ ⟨p', vs, rfl, hp', h2⟩ Q q
  exact ⟨p, p', us, vs, rfl, rfl, hp, hp', sz_of (by rw [← isE_len h1, ← isE_len h2]; exact h), fun l hl => q _ _ (Ex.new hl) ⟨l, _, rfl, upd_same, isE_app (IsE.mono (Ex.new hl) h1) (IsE.mono (Ex.new hl) h2)⟩⟩
theorem rc_listLd : Rc K (rListS K) [.L ds] (.N ds) := by
  rintro _ H1 (_ | ⟨⟨p, vs, rfl, hp, hE⟩, _ | _⟩) Q q
  exact ⟨p, vs, rfl, .inl hp, fun l hl => q _ _ (Ex.new hl) ⟨l, vs, rfl, upd_same, IsE.mono (Ex.new hl) hE⟩⟩
theorem rc_listUd : Rc K (rListS K) [.U ds] (.N ds) := by
  rintro _ H1 (_ | ⟨⟨p, vs, rfl, hp, hE⟩, _ | _⟩) Q q
  exact ⟨p, vs, rfl, .inr hp, fun l hl => q _ _ (Ex.new hl) ⟨l, vs, rfl, upd_same, IsE.mono (Ex.new hl) hE⟩⟩
theorem rc_tupLd : Rc K (rTupS K) [.L ds] (.U ds) := by
  rintro _ H1 (_ | ⟨⟨p, vs, rfl, hp, hE⟩, _ | _⟩) Q q
  exact ⟨p, vs, rfl, .inl ⟨hp, fun l hl => q _ _ (Ex.new hl) ⟨l, vs, rfl, st_of upd_same, IsE.mono (Ex.new hl) hE⟩⟩⟩
theorem rc_tupNd : Rc K (rTupS K) [.N ds] (.U ds) := fun vs H1 h Q q => by
  cases h with
  | cons a b => exact rc_tupLd _ H1 (.cons a.N2L b) Q q
theorem rc_tupUd : Rc K (rTupS K) [.U ds] (.U ds) := by
  rintro _ H1 (_ | ⟨⟨p, vs, rfl, hp, hE⟩, _ | _⟩) Q q
  exact ⟨p, vs, rfl, .inr ⟨hp, q _ H1 (Ex.refl H1) ⟨p, vs, rfl, hp, hE⟩⟩⟩
theorem er_slLTo {n : Nat} (h : Er K te σ H (.L ds)) (h2 : Er K tb σ H (.i (n : Int))) : Er K (tSl (rSlL K) te tNoPart (tPart tb)) σ H (.N (ds.take n)) := fun H1 e1 _ q =>
  h H1 e1 _ fun v H2 e2 ⟨p, vs, ep, hp, hE⟩ => eo_non H2 (e1.trans e2) _ fun H3 e3 => eo_of h2 H3 ((e1.trans e2).trans e3) _ fun H4 e4 => by
    subst ep
    refine ⟨p, vs, rfl, ex_l (e3.trans e4) hp, fun l hl => q _ _ (((e2.trans e3).trans e4).trans (Ex.new hl)) ⟨l, _, rfl, upd_same, ?_⟩⟩
    have ec : cutV vs none (some (n : Int)) = vs.take n := by
      unfold cutV
      rw [HT.sIx_none, HT.sIx_nat]
      rw [List.drop_zero, Nat.sub_zero, List.take_eq_take_iff]
      omega
    rw [ec]
    exact isE_take n (IsE.mono ((e3.trans e4).trans (Ex.new hl)) hE)
theorem er_slLFrom {n : Nat} (h : Er K te σ H (.L ds)) (h2 : Er K tb σ H (.i (n : Int))) : Er K (tSl (rSlL K) te (tPart tb) tNoPart) σ H (.N (ds.drop n)) := fun H1 e1 _ q =>
  h H1 e1 _ fun v H2 e2 ⟨p, vs, ep, hp, hE⟩ => eo_of h2 H2 (e1.trans e2) _ fun H3 e3 => eo_non H3 ((e1.trans e2).trans e3) _ fun H4 e4 => by
    subst ep
    refine ⟨p, vs, rfl, ex_l (e3.trans e4) hp, fun l hl => q _ _ (((e2.trans e3).trans e4).trans (Ex.new hl)) ⟨l, _, rfl, upd_same, ?_⟩⟩
    rw [cutV_from]
    exact isE_drop n (IsE.mono ((e3.trans e4).trans (Ex.new hl)) hE)
end
end Mi

set_option maxHeartbeats 2000000
namespace Mi
open PySem PySem.Spec PyProof.Rows L2 Evl
/-! ### a view G of the heap A: what is not changed any more; lists that still grow stand outside of it -/
structure Step (G A G' A' : Hp) : Prop where
  g : Ex G G'
  v : Ex G' A'
  a : Ex A A'
  f : ∀ b, A b ≠ none → G b = none → G' b = none
theorem ex_out {G A : Hp} (e : Ex G A) {b : Addr} (h : A b = none) : G b = none := by
  cases q : G b with
  | none => rfl
  | some o => rw [e b o q] at h; cases h
theorem Step.refl {G A : Hp} (e : Ex G A) : Step G A G A := ⟨Ex.refl G, e, Ex.refl A, fun _ _ h => h⟩
theorem Step.trans {G A G1 A1 G2 A2 : Hp} (s : Step G A G1 A1) (t : Step G1 A1 G2 A2) : Step G A G2 A2 :=
  ⟨s.g.trans t.g, t.v, s.a.trans t.a, fun b h h2 => by
    refine t.f b ?_ (s.f b h h2)
    cases q : A b with
    | none => exact absurd q h
    | some o => rw [s.a b o q]; simp⟩
/-- only the heap went on -/
theorem Step.on {G A A' : Hp} (e : Ex G A) (a : Ex A A') : Step G A G A' := ⟨Ex.refl G, e.trans a, a, fun _ _ h => h⟩
theorem ex_both {G A : Hp} {p : Addr} {o : HO} (e : Ex G A) (hp : G p = none) : Ex (upd G p o) (upd A p o) := fun b x hb => by
  by_cases q : b = p
  · rw [q, upd_same] at hb ⊢
    exact hb
  · rw [upd_ne q] at hb ⊢
    exact e b x hb
/-- a new object, seen at once -/
theorem Step.new {G A : Hp} {p : Addr} {o : HO} (e : Ex G A) (hp : A p = none) : Step G A (upd G p o) (upd A p o) := by
  have hg := ex_out e hp
  refine ⟨Ex.new hg, ex_both e hg, Ex.new hp, fun b h h2 => ?_⟩
  have hb : b ≠ p := fun z => h (by rw [z]; exact hp)
  rw [upd_ne hb]
  exact h2
/-- a list of ours is done: from here on it is seen -/
theorem Step.seal {G0 A0 G A : Hp} {p : Addr} {o : HO} (s : Step G0 A0 G A) (h0 : A0 p = none) (hg : G p = none) (ha : A p = some o) : Step G0 A0 (upd G p o) A := by
  refine ⟨s.g.trans (Ex.new hg), fun b x hb => ?_, s.a, fun b h h2 => ?_⟩
  · by_cases q : b = p
    · rw [q, upd_same] at hb
      rw [q, ha]
      exact hb
    · rw [upd_ne q] at hb
      exact s.v b x hb
  · have hb : b ≠ p := fun z => h (by rw [z]; exact h0)
    rw [upd_ne hb]
    exact s.f b h h2
/-- a list of ours grows -/
theorem Step.grow {G0 A0 G A : Hp} {p : Addr} {o : HO} (s : Step G0 A0 G A) (h0 : A0 p = none) (hg : G p = none) : Step G0 A0 G (upd A p o) :=
  ⟨s.g, s.v.mut hg, s.a.mut h0, s.f⟩
def Ef (K : PySem.W.Frag) (te : TE) (σ : L2.St) (G : Hp) (d : Dd) : Prop := ∀ G1 A, Ex G G1 → Ex G1 A → ∀ Q : VK, (∀ v G' A', Step G1 A G' A' → Is K G' d v → Q v A') → te σ A Q
def Efa (K : PySem.W.Frag) (ta : TA) (σ : L2.St) (G : Hp) (ds : List Dd) : Prop := ∀ G1 A, Ex G G1 → Ex G1 A → ∀ Q : List V → Hp → Prop, (∀ vs G' A', Step G1 A G' A' → IsAll K G' ds vs → Q vs A') → ta σ A Q
def Rof (K : PySem.W.Frag) (r : R2) (d1 d2 d : Dd) : Prop := ∀ x y G A, Ex G A → Is K G d1 x → Is K G d2 y → ∀ Q : VK, (∀ v G' A', Step G A G' A' → Is K G' d v → Q v A') → r x y A Q
def Rcf (K : PySem.W.Frag) (r : List V → Hp → VK → Prop) (ds : List Dd) (d : Dd) : Prop := ∀ vs G A, Ex G A → IsAll K G ds vs → ∀ Q : VK, (∀ v G' A', Step G A G' A' → Is K G' d v → Q v A') → r vs A Q
section
variable {K : PySem.W.Frag} {σ : L2.St} {G G0 A A' : Hp} {te ta tb tc : TE} {t u : TT} {tr : TA} {d d1 d2 d' : Dd} {x y : V} {r : R2} {ds es : List Dd} {b : Bool}
theorem Ef.mono (e : Ex G0 G) (h : Ef K te σ G0 d) : Ef K te σ G d := fun G1 A e1 e2 Q q => h G1 A (e.trans e1) e2 Q q
theorem Ef.to (h : Ef K te σ G d) (e : d = d') : Ef K te σ G d' := e ▸ h
theorem Ef.as (h : Ef K te σ G d) (f : ∀ H v, Is K H d v → Is K H d' v) : Ef K te σ G d' := fun G1 A e1 e2 Q q => h G1 A e1 e2 Q fun v G' A' s z => q v G' A' s (f G' v z)
theorem Ef.er (h : Ef K te σ G d) : Er K te σ G d := fun H1 e Q q => h H1 H1 e (Ex.refl H1) Q fun v G' A' s z => q v A' s.a (z.mono s.v)
/-- a flat value is seen everywhere -/
theorem ef_flat (h : Er K te σ G (.v x)) : Ef K te σ G (.v x) := fun G1 A e1 e2 Q q => h A (e1.trans e2) Q fun v H2 e z => q v G1 H2 (.on e2 e) z
theorem ef_var {i : Nat} (h : σ[i]? = some (some x)) (hd : Is K G d x) : Ef K (tVar i) σ G d := fun G1 A e1 e2 Q q => ⟨x, h, q x G1 A (.refl e2) (hd.mono e1)⟩
theorem efa_nil : Efa K tNil σ G [] := fun G1 A e1 e2 Q q => q [] G1 A (.refl e2) .nil
theorem efa_cons (h : Ef K ta σ G d) (hr : Efa K tr σ G ds) : Efa K (tCons ta tr) σ G (d :: ds) := fun G1 A e1 e2 Q q =>
  h G1 A e1 e2 _ fun v G2 A2 s z => hr G2 A2 (e1.trans s.g) s.v _ fun vs G3 A3 s3 z3 => q _ G3 A3 (s.trans s3) (.cons (z.mono s3.g) z3)
theorem ef_op (ha : Ef K ta σ G d1) (hb : Ef K tb σ G d2) (hr : Rof K r d1 d2 d) : Ef K (tOp r ta tb) σ G d := fun G1 A e1 e2 Q q =>
  ha G1 A e1 e2 _ fun v1 G2 A2 s z => hb G2 A2 (e1.trans s.g) s.v _ fun v2 G3 A3 s3 z3 => hr v1 v2 G3 A3 s3.v (z.mono s3.g) z3 Q fun v G4 A4 s4 z4 => q v G4 A4 ((s.trans s3).trans s4) z4
theorem ef_cb {rc : List V → Hp → VK → Prop} (h : Efa K tr σ G ds) (hr : Rcf K rc ds d) : Ef K (tCB rc tr) σ G d := fun G1 A e1 e2 Q q =>
  h G1 A e1 e2 _ fun vs G2 A2 s z => hr vs G2 A2 s.v z Q fun v G3 A3 s3 z3 => q v G3 A3 (s.trans s3) z3
theorem ef_N (h : Efa K tr σ G ds) (hl : ds.length ≤ 100000) : Ef K (tLst tr) σ G (.N ds) := fun G1 A e1 e2 Q q =>
  h G1 A e1 e2 _ fun ws G2 A2 s z => ⟨sz_of (by rw [← z.len]; exact hl), fun p hp => q _ _ _ (s.trans (.new s.v hp)) ⟨p, ws, rfl, upd_same, isE_all.mpr (z.mono (Ex.new (ex_out s.v hp)))⟩⟩
theorem ef_U (h : Efa K tr σ G ds) (hl : ds.length ≤ 100000) : Ef K (tTup tr) σ G (.U ds) := fun G1 A e1 e2 Q q =>
  h G1 A e1 e2 _ fun ws G2 A2 s z => ⟨sz_of (by rw [← z.len]; exact hl), fun p hp => q _ _ _ (s.trans (.new s.v hp)) ⟨p, ws, rfl, st_of upd_same, isE_all.mpr (z.mono (Ex.new (ex_out s.v hp)))⟩⟩
theorem rf_ixL {i : Nat} (hd : ds[i]? = some d) : Rof K (rIxL K) (.L ds) (.i (i : Int)) d := by
  rintro _ _ G A e ⟨p, vs, rfl, hp, hE⟩ rfl Q q
  obtain ⟨v, hv, z⟩ := isE_at hE hd
  exact ⟨p, vs, (i : Int), v, rfl, rfl, ex_l e hp, atI_nat hv, q _ G A (.refl e) z⟩
theorem rf_ixN {i : Nat} (hd : ds[i]? = some d) : Rof K (rIxL K) (.N ds) (.i (i : Int)) d := fun v w G A e a b => rf_ixL hd v w G A e a.N2L b
theorem rf_ixU {i : Nat} (hd : ds[i]? = some d) : Rof K (rIxT K) (.U ds) (.i (i : Int)) d := by
  rintro _ _ G A e ⟨p, vs, rfl, hp, hE⟩ rfl Q q
  obtain ⟨v, hv, z⟩ := isE_at hE hd
  exact ⟨p, vs, (i : Int), v, rfl, rfl, ex_t e hp, atI_nat hv, q _ G A (.refl e) z⟩
theorem rf_cat (h : ds.length + es.length ≤ 100000) : Rof K rCat (.N ds) (.N es) (.N (ds ++ es)) := by
  rintro _ _ G A e ⟨p, us, rfl, hp, h1⟩ ⟨p', vs, rfl, hp', h2⟩ Q q
  exact ⟨p, p', us, vs, rfl, rfl, e p _ hp, e p' _ hp', sz_of (by rw [← isE_len h1, ← isE_len h2]; exact h), fun l hl => q _ _ _ (.new e hl) ⟨l, _, rfl, upd_same, isE_app (IsE.mono (Ex.new (ex_out e hl)) h1) (IsE.mono (Ex.new (ex_out e hl)) h2)⟩⟩
theorem rf_listL : Rcf K (rListS K) [.L ds] (.N ds) := by
  rintro _ G A e (_ | ⟨⟨p, vs, rfl, hp, hE⟩, _ | _⟩) Q q
  exact ⟨p, vs, rfl, .inl (ex_l e hp), fun l hl => q _ _ _ (.new e hl) ⟨l, vs, rfl, upd_same, IsE.mono (Ex.new (ex_out e hl)) hE⟩⟩
theorem rf_listU : Rcf K (rListS K) [.U ds] (.N ds) := by
  rintro _ G A e (_ | ⟨⟨p, vs, rfl, hp, hE⟩, _ | _⟩) Q q
  exact ⟨p, vs, rfl, .inr (ex_t e hp), fun l hl => q _ _ _ (.new e hl) ⟨l, vs, rfl, upd_same, IsE.mono (Ex.new (ex_out e hl)) hE⟩⟩
theorem rf_tupL : Rcf K (rTupS K) [.L ds] (.U ds) := by
  rintro _ G A e (_ | ⟨⟨p, vs, rfl, hp, hE⟩, _ | _⟩) Q q
  exact ⟨p, vs, rfl, .inl ⟨ex_l e hp, fun l hl => q _ _ _ (.new e hl) ⟨l, vs, rfl, st_of upd_same, IsE.mono (Ex.new (ex_out e hl)) hE⟩⟩⟩
theorem rf_tupN : Rcf K (rTupS K) [.N ds] (.U ds) := fun vs G A e h Q q => by
  cases h with
  | cons a b => exact rf_tupL _ G A e (.cons a.N2L b) Q q
theorem rf_tupU : Rcf K (rTupS K) [.U ds] (.U ds) := by
  rintro _ G A e (_ | ⟨⟨p, vs, rfl, hp, hE⟩, _ | _⟩) Q q
  exact ⟨p, vs, rfl, .inr ⟨ex_t e hp, q _ G A (.refl e) ⟨p, vs, rfl, hp, hE⟩⟩⟩
/-- calls of the text's own defs -/
def spF (K : PySem.W.Frag) {T : Type} (pre : T → Prop) (args : T → List Dd) (ret : T → Dd) : Sp := fun vs A Q _ => ∃ a : T, pre a ∧ ∃ G, Ex G A ∧ IsAll K G (args a) vs ∧ ∀ v G' A', Step G A G' A' → Is K G' (ret a) v → Q v A'
theorem ef_call {T : Type} {pre : T → Prop} {args : T → List Dd} {ret : T → Dd} {E : XK} (a : T) (h : Efa K tr σ G ds) (hd : ds = args a) (hp : pre a) : Ef K (tCall (spF K pre args ret) [] E tr) σ G (ret a) := fun G1 A e1 e2 Q q =>
  h G1 A e1 e2 _ fun vs G2 A2 s z => by
    rw [List.append_nil]
    exact ⟨a, hp, G2, s.v, hd ▸ z, fun v G3 A3 s3 z3 => q v G3 A3 (s.trans s3) z3⟩
/-- what is told of views holds of heaps -/
theorem spF_of {T : Type} {pre : T → Prop} {args : T → List Dd} {ret : T → Dd} : ∀ vs H Q E, spR K pre args ret vs H Q E → spF K pre args ret vs H Q E := by
  rintro vs H Q E ⟨a, hp, hv, hk⟩
  exact ⟨a, hp, H, Ex.refl H, hv, fun v G' A' s z => hk v A' s.a (z.mono s.v)⟩
theorem ef_if {b : Bool} (h : ∀ A, Ex G A → Et K t σ A b) (h1 : b = true → Ef K ta σ G d) (h2 : b = false → Ef K tb σ G d) : Ef K (tIf t ta tb) σ G d := fun G1 A e1 e2 Q q =>
  h A (e1.trans e2) A (Ex.refl A) _ fun A2 ea => by
    cases b with
    | true => exact h1 rfl G1 A2 e1 (e2.trans ea) Q fun v G' A' s z => q v G' A' ((Step.on e2 ea).trans s) z
    | false => exact h2 rfl G1 A2 e1 (e2.trans ea) Q fun v G' A' s z => q v G' A' ((Step.on e2 ea).trans s) z
end
end Mi

set_option maxHeartbeats 2000000
namespace Mi
open PySem PySem.Spec PyProof.Rows L2 Evl
/-! ### what is walked, seen from a view -/
def Wk (K : PySem.W.Frag) (J : It) (G2 : Hp) (ds : List Dd) : Prop := ∀ i G' A', Ex G2 G' → Ex G' A' → (∀ d, ds[i]? = some d → J.go i A' ∧ ∀ v A'', J.yld i A' v A'' → ∃ G'', Step G' A' G'' A'' ∧ Is K G'' d v) ∧ (i = ds.length → J.stop i A')
def Itf (K : PySem.W.Frag) (wi : TI) (σ : L2.St) (G : Hp) (ds : List Dd) : Prop := ∀ G1 A, Ex G G1 → Ex G1 A → ∀ R, (∀ J G2 A2, Step G1 A G2 A2 → Wk K J G2 ds → R J A2) → wi σ A R
section
variable {K : PySem.W.Frag} {σ : L2.St} {G G0 A A' : Hp} {te tl tb : TE} {t : TT} {ta : TA} {wi : TI} {g : TG} {d e d1 d2 : Dd} {D : Ends} {tu tz : TS} {v x : V} {ds es : List Dd} {b : Bool}
theorem if_list (h : Ef K tl σ G (.L ds)) : Itf K (iList K tl) σ G ds := fun G1 A e1 e2 R r =>
  h G1 A e1 e2 _ fun v G2 A2 s ⟨p, vs, ep, hp, hE⟩ => by
    subst ep
    refine ⟨p, rfl, ⟨vs, ex_l s.v hp⟩, r _ G2 A2 s fun i G' A' e3 e4 => ⟨fun d hd => ?_, fun hi => ⟨vs, ex_l (e3.trans e4) hp, by rw [← isE_len hE]; omega⟩⟩⟩
    obtain ⟨y, hy, z⟩ := isE_at hE hd
    refine ⟨⟨vs, y, ex_l (e3.trans e4) hp, hy⟩, fun v A'' hyl => ?_⟩
    obtain ⟨rfl, hall⟩ := hyl
    have ev := (hall vs (ex_l (e3.trans e4) hp)).symm.trans hy
    rw [Option.some.inj ev]
    exact ⟨G', .refl e4, z.mono e3⟩
theorem if_tup (h : Ef K tl σ G (.U ds)) : Itf K (iTup K tl) σ G ds := fun G1 A e1 e2 R r =>
  h G1 A e1 e2 _ fun v G2 A2 s ⟨p, vs, ep, hp, hE⟩ => by
    subst ep
    refine ⟨p, rfl, ⟨vs, ex_t s.v hp⟩, r _ G2 A2 s fun i G' A' e3 e4 => ⟨fun d hd => ?_, fun hi => ⟨vs, ex_t (e3.trans e4) hp, by rw [← isE_len hE]; omega⟩⟩⟩
    obtain ⟨y, hy, z⟩ := isE_at hE hd
    refine ⟨⟨vs, y, ex_t (e3.trans e4) hp, hy⟩, fun v A'' hyl => ?_⟩
    obtain ⟨rfl, hall⟩ := hyl
    have ev := (hall vs (ex_t (e3.trans e4) hp)).symm.trans hy
    rw [Option.some.inj ev]
    exact ⟨G', .refl e4, z.mono e3⟩
theorem if_range {n : Nat} (h : Era K ta σ G [.i (n : Int)]) (hn : n ≤ 100000) : Itf K (iRng1 ta) σ G ((List.range n).map fun i : Nat => Dd.i (i : Int)) := fun G1 A e1 e2 R r =>
  h A (e1.trans e2) _ fun vs A2 ea z => by
    rcases z with _ | ⟨rfl, _ | _⟩
    refine ⟨(n : Int), rfl, by omega, by omega, r _ G1 A2 (.on e2 ea) fun i G' A' e3 e4 => ⟨fun d hd => ?_, fun hi => ?_⟩⟩
    · have hi : i < n := by
        have := (List.getElem?_eq_some_iff.mp hd).1
        simpa using this
      rw [List.getElem?_map, List.getElem?_range hi] at hd
      have ed := Option.some.inj hd
      refine ⟨show i < (n : Int).toNat by omega, fun v A'' hyl => ?_⟩
      obtain ⟨rfl, rfl⟩ := hyl
      refine ⟨G', .refl e4, ?_⟩
      rw [← ed]
      show V.int (0 + (i : Int)) = V.int (i : Int)
      rw [Int.zero_add]
    · show (n : Int).toNat ≤ i
      rw [List.length_map, List.length_range] at hi
      omega
theorem if_text {z : List Nat} (h : Er K tl σ G (.s (S z))) : Itf K (iStr tl) σ G (z.map fun c => Dd.s (S [c])) := fun G1 A e1 e2 R r =>
  h A (e1.trans e2) _ fun v A2 ea ev => by
    refine ⟨S z, ev, r _ G1 A2 (.on e2 ea) fun i G' A' e3 e4 => ⟨fun d hd => ?_, fun hi => ?_⟩⟩
    · rw [List.getElem?_map] at hd
      cases hc : z[i]? with
      | none => rw [hc] at hd; cases hd
      | some c =>
        rw [hc] at hd
        have ed := Option.some.inj hd
        have hi := (List.getElem?_eq_some_iff.mp hc).1
        refine ⟨show i < (S z).cps.size by rw [S_size]; exact hi, fun v A'' hyl => ?_⟩
        obtain ⟨rfl, c', hc', rfl⟩ := hyl
        rw [S_at, hc] at hc'
        rw [← ed, ← Option.some.inj hc']
        exact ⟨G', .refl e4, rfl⟩
    · show (S z).cps.size ≤ i
      rw [S_size]
      rw [List.length_map] at hi
      omega
theorem if_pairs {ps : List (V × V)} {wi : TI} (h : ∀ A, Ex G A → ∀ R, (∀ A2, Ex A A2 → R (ItP ps) A2) → wi σ A R) : Itf K wi σ G (ps.map fun p => Dd.U [.v p.1, .v p.2]) := fun G1 A e1 e2 R r =>
  h A (e1.trans e2) R fun A2 ea => r _ G1 A2 (.on e2 ea) fun i G' A' e3 e4 => ⟨fun d hd => by
    rw [List.getElem?_map] at hd
    cases hc : ps[i]? with
    | none => rw [hc] at hd; cases hd
    | some p =>
      rw [hc] at hd
      have ed := Option.some.inj hd
      refine ⟨(List.getElem?_eq_some_iff.mp hc).1, fun v A'' hyl => ?_⟩
      obtain ⟨T, x, y, rfl, hT, rfl, hxy⟩ := hyl
      rw [hc] at hxy
      have ep := Option.some.inj hxy
      rw [← ed, ep]
      exact ⟨_, .new e4 hT, T, [x, y], rfl, st_of upd_same, x, [y], rfl, rfl, y, [], rfl, rfl, rfl⟩, fun hi => by
    rw [List.length_map] at hi
    exact hi⟩
theorem if_zipS {a b : List Nat} (h : Era K ta σ G [.s (S a), .s (S b)]) : Itf K (iZipS ta) σ G ((a.zip b).map fun p => Dd.U [.s (S [p.1]), .s (S [p.2])]) := by
  have e : (a.zip b).map (fun p => Dd.U [.s (S [p.1]), .s (S [p.2])]) = (zipS (S a) (S b)).map fun p => Dd.U [.v p.1, .v p.2] := by
    unfold zipS
    rw [List.map_map]
    rfl
  rw [e]
  exact if_pairs fun A e1 R r => h A e1 _ fun vs A2 ea z => by
    rcases z with _ | ⟨rfl, _ | ⟨rfl, _ | _⟩⟩
    exact ⟨S a, S b, rfl, r A2 ea⟩
/-- a loop over what is walked -/
theorem f_for (h : Itf K wi σ G ds) (hA : Ex G A) (Pv : Nat → L2.St → Hp → Hp → Prop) (h0 : ∀ G1 A1, Step G A G1 A1 → Pv 0 σ G1 A1)
    (hs : ∀ G1, Ex G G1 → ∀ i d v σ' G' A' G2 A2, ds[i]? = some d → Pv i σ' G' A' → Ex G1 G' → Ex G' A' → Step G' A' G2 A2 → Is K G2 d v → g v σ' A2 fun σ2 A3 => tu { D with nx := fun σ3 A4 => ∃ G4, Pv (i + 1) σ3 G4 A4 ∧ Ex G1 G4 ∧ Ex G4 A4, ct := fun σ3 A4 => ∃ G4, Pv (i + 1) σ3 G4 A4 ∧ Ex G1 G4 ∧ Ex G4 A4, bk := D.nx } σ2 A3)
    (hd : ∀ σ' G' A', Ex G G' → Ex G' A' → Pv ds.length σ' G' A' → D.nx σ' A') : tFor wi g tu D σ A :=
  h G A (Ex.refl G) hA _ fun J G1 A1 s hw => by
    refine ⟨fun i m σ' A' => m = ds.length - i ∧ i ≤ ds.length ∧ ∃ G', Pv i σ' G' A' ∧ Ex G1 G' ∧ Ex G' A', ⟨_, rfl, Nat.zero_le _, G1, h0 G1 A1 s, Ex.refl G1, s.v⟩, ?_⟩
    rintro i m σ' A' ⟨rfl, hi, G', p, eg, ea⟩
    by_cases hlt : i < ds.length
    · have hd' : ds[i]? = some ds[i] := List.getElem?_eq_getElem hlt
      obtain ⟨go, yl⟩ := (hw i G' A' eg ea).1 _ hd'
      refine .inr ⟨go, fun σ3 A4 => ∃ G4, Pv (i + 1) σ3 G4 A4 ∧ Ex G1 G4 ∧ Ex G4 A4, fun σ3 A4 q => ⟨ds.length - (i + 1), by omega, rfl, hlt, q⟩, fun v A'' y => ?_⟩
      obtain ⟨G2, s2, z⟩ := yl v A'' y
      exact hs G1 s.g i _ v σ' G' A' G2 A'' hd' p eg ea s2 z
    · have e : i = ds.length := by omega
      subst e
      exact .inl ⟨(hw _ G' A' eg ea).2 rfl, hd σ' G' A' (s.g.trans eg) ea p⟩
theorem b_for (h : Itf K wi σ G ds) (hA : Ex G A) (Pv : Nat → L2.St → Hp → Hp → Prop) (h0 : ∀ G1 A1, Step G A G1 A1 → Pv 0 σ G1 A1)
    (hs : ∀ G1, Ex G G1 → ∀ i d v σ' G' A' G2 A2, ds[i]? = some d → Pv i σ' G' A' → Ex G1 G' → Ex G' A' → Step G' A' G2 A2 → Is K G2 d v → g v σ' A2 fun σ2 A3 => tu { D with nx := fun σ3 A4 => ∃ G4, Pv (i + 1) σ3 G4 A4 ∧ Ex G1 G4 ∧ Ex G4 A4, ct := fun σ3 A4 => ∃ G4, Pv (i + 1) σ3 G4 A4 ∧ Ex G1 G4 ∧ Ex G4 A4, bk := tz D } σ2 A3)
    (hd : ∀ σ' G' A', Ex G G' → Ex G' A' → Pv ds.length σ' G' A' → tz D σ' A') : tSeq (tFor wi g tu) tz D σ A := f_for (D := { D with nx := tz D }) h hA Pv h0 hs hd
/-- two names for a pair -/
theorem g_two {j1 j2 : Nat} {Q : L2.St → Hp → Prop} (hA : Ex G A) (h : Is K G (.U [d1, d2]) v) (k : ∀ v1 v2, Is K G d1 v1 → Is K G d2 v2 → Q ((σ.set j1 (some v1)).set j2 (some v2)) A) : gTup K 2 (gCons (gName j1) (gCons (gName j2) gNil)) v σ A Q := by
  obtain ⟨T, vs, rfl, hT, x, r, rfl, hx, y, r2, rfl, hy, hr⟩ := h
  have er : r2 = [] := hr
  subst er
  exact ⟨T, [x, y], rfl, ex_t hA hT, rfl, x, [y], rfl, y, [], rfl, rfl, k x y hx hy⟩
/-- a comprehension over what is walked -/
theorem ef_lc {α : Type} {its : List α} {inj : α → Dd} {vs : List Nat} (f : α → Bool) (gd : α → Dd) (h : Itf K wi σ G (its.map inj)) (hz : its.length ≤ 50000)
    (hs : ∀ (i : Nat) x v G' A', Ex G G' → Ex G' A' → its[i]? = some x → Is K G' (inj x) v → ∃ σ2, (∀ Q : L2.St → Hp → Prop, Q σ2 A' → g v (wipe σ vs) A' Q) ∧ wipe σ2 vs = wipe σ vs ∧ Et K t σ2 A' (f x) ∧ (f x = true → Ef K te σ2 G' (gd x))) :
    Ef K (tLc wi g t te vs) σ G (.N ((its.filter f).map gd)) := fun G0 A0 e0 ea0 Q q =>
  h G0 A0 e0 ea0 _ fun J G1 A1 s1 hw => fun Dl hD => by
    have gD := ex_out s1.v hD
    refine ⟨fun i m A' => m = its.length - i ∧ i ≤ its.length ∧ ∃ G', Step G1 A1 G' A' ∧ G' Dl = none ∧ ∃ us, A' Dl = some (.lst us) ∧ IsE K G' (((its.take i).filter f).map gd) us, ⟨_, rfl, Nat.zero_le _, G1, .on s1.v (Ex.new hD), gD, [], upd_same, rfl⟩, ?_⟩
    rintro i m A' ⟨rfl, hi, G', st, hg, us, hu, hE⟩
    by_cases hlt : i < its.length
    · have hx : its[i]? = some its[i] := List.getElem?_eq_getElem hlt
      have hd' : (its.map inj)[i]? = some (inj its[i]) := by rw [List.getElem?_map, hx]; rfl
      obtain ⟨go, yl⟩ := (hw i G' A' st.g st.v).1 _ hd'
      refine .inr ⟨go, fun A3 => ∃ G3, Step G1 A1 G3 A3 ∧ G3 Dl = none ∧ ∃ us, A3 Dl = some (.lst us) ∧ IsE K G3 (((its.take (i + 1)).filter f).map gd) us, fun A3 p3 => ⟨its.length - (i + 1), by omega, rfl, hlt, p3⟩, fun v A'' y => ?_⟩
      obtain ⟨G2, s2, z⟩ := yl v A'' y
      have uN : A' Dl ≠ none := by rw [hu]; simp
      have g2 := s2.f Dl uN hg
      have u2 := s2.a Dl _ hu
      obtain ⟨σ2, hgt, hwp, htt, hte⟩ := hs i _ v G2 A'' ((e0.trans s1.g).trans (st.g.trans s2.g)) s2.v hx z
      have hl : us.length ≤ i := by
        rw [← isE_len hE, List.length_map]
        refine Nat.le_trans (List.length_filter_le _ _) ?_
        rw [List.length_take]
        exact Nat.min_le_left _ _
      refine hgt _ ⟨hwp, htt A'' (Ex.refl _) _ fun A3 e3 => ?_⟩
      have hn : (its.take (i + 1)).filter f = (its.take i).filter f ++ if f its[i] = true then [its[i]] else [] := by
        rw [List.take_add_one, hx]
        simp only [Option.toList, List.filter_append]
        congr 1
        by_cases hf : f its[i] = true
        · simp [hf]
        · simp [hf]
      have s3 := (st.trans s2).trans (Step.on s2.v e3)
      have u3 := e3 Dl _ u2
      by_cases hf : f its[i] = true
      · rw [if_pos hf]
        refine hte hf G2 A3 (Ex.refl G2) s3.v _ fun w G4 A4 s4 zw => ⟨us, s4.a Dl _ u3, sz_lt (by omega), ?_⟩
        have g4 := s4.f Dl (by rw [u3]; simp) g2
        refine ⟨G4, (s3.trans s4).grow hD g4, g4, us ++ [w], upd_same, ?_⟩
        rw [hn, if_pos hf, List.map_append]
        exact isE_app (IsE.mono (s2.g.trans s4.g) hE) ⟨w, [], rfl, zw, rfl⟩
      · rw [if_neg hf]
        refine ⟨G2, s3, g2, us, u3, ?_⟩
        rw [hn, if_neg hf, List.append_nil]
        exact IsE.mono s2.g hE
    · have e : i = its.length := by omega
      subst e
      refine .inl ⟨(hw _ G' A' st.g st.v).2 (by rw [List.length_map]), q _ (upd G' Dl (.lst us)) A' (s1.trans (st.seal hD hg hu)) ⟨Dl, us, rfl, upd_same, ?_⟩⟩
      rw [List.take_length] at hE
      exact IsE.mono (Ex.new hg) hE
/-! ### statements -/
theorem s_set {i : Nat} (h : Ef K te σ G d) (hA : Ex G A) (k : ∀ v G' A', Step G A G' A' → Is K G' d v → tz D (σ.set i (some v)) A') : tSeq (tAsg te (gName i)) tz D σ A := h G A (Ex.refl G) hA _ fun v G' A' s z => k v G' A' s z
theorem s_set1 {i : Nat} (h : Ef K te σ G d) (hA : Ex G A) (k : ∀ v G' A', Step G A G' A' → Is K G' d v → D.nx (σ.set i (some v)) A') : tAsg te (gName i) D σ A := h G A (Ex.refl G) hA _ fun v G' A' s z => k v G' A' s z
theorem s_ret {d' : Dd} (h : Ef K te σ G d) (hA : Ex G A) (hd : d = d') (k : ∀ v G' A', Step G A G' A' → Is K G' d' v → D.rt v A') : tRet te D σ A := h G A (Ex.refl G) hA _ fun v G' A' s z => k v G' A' s (hd ▸ z)
theorem s_new {i : Nat} (hA : Ex G A) (k : ∀ p A', A p = none → G p = none → Step G A G A' → A' p = some (.lst []) → tz D (σ.set i (some (.ref p))) A') : tSeq (tAsg (tLst tNil) (gName i)) tz D σ A :=
  ⟨Nat.zero_le _, fun p hp => k p _ hp (ex_out hA hp) (.on hA (Ex.new hp)) upd_same⟩
theorem s_app {l : Addr} {us : List V} (hl : A l = some (.lst us)) (hg : G l = none) (hA : Ex G A) (ha : Er K tl σ A (.v (.ref l))) (h : Ef K te σ G d) (hz : us.length < 100000) (k : ∀ w G' A', Step G A G' A' → Is K G' d w → G' l = none → A' l = some (.lst us) → D.nx σ (upd A' l (.lst (us ++ [w])))) :
    tDrop (tBM K "list" rAppend tl (tCons te tNil)) D σ A := ha A (Ex.refl A) _ fun v A1 e1 z1 => by
  have ez : v = .ref l := z1
  subst ez
  have h1 := e1 l _ hl
  exact ⟨Or.inl ⟨rfl, us, sq_of h1⟩, h G A1 (Ex.refl G) (hA.trans e1) _ fun w G2 A2 s2 z2 => ⟨l, us, w, rfl, rfl, s2.a l _ h1, sz_lt hz, k w G2 A2 ((Step.on hA e1).trans s2) z2 (s2.f l (by rw [h1]; simp) hg) (s2.a l _ h1)⟩⟩
end
theorem At.hasF {P : Program} {w : World} {K : PySem.W.Frag} {mg : Str → Option Value} {base : Heap} {x : Str} {st : Stmt} {N ps : List Str} {k : Nat} {T : Type} {pre : T → Prop} {args : T → List Dd} {ret : T → Dd}
    (h : At K mg x st ps) (Sc : FnScope N ps (defScope st)) (hl : ∀ a, (args a).length = ps.length)
    (hbody : ∀ (f : Addr) (cdv : Value) (Ar : Around) (outer : List Env) (s : Shared) (G A : Hp) (a : T) (vs : List V) (Q : VK) (E : XK), Room k (Ar.deeper (envOfC x (defScope st) s.heap.objs.size f cdv)) → pre a → Ex G A → IsAll K G (args a) vs →
      (∀ v G' A', Step G A G' A' → Is K G' (ret a) v → Q v A') →
      ∃ t, PSs (cxOf CX0 P w K mg base N x (defScope st) f cdv Ar outer s A E).nox (defBody st) t ∧ t { nx := fun _ A' => Q .non A', rt := Q } (start N vs) A) :
    Has P w K mg base (k + 1) x ps (spF K pre args ret) := by
  obtain ⟨f, fd, hm, F, b0, b1, b2⟩ := h.ex
  refine ⟨f, fd, hm, F.kp, F.ok Sc (fun vs H Q E hsp => ?_) (fun cdv Ar outer s A vs Q E hr hsp => ?_), b0, b1, b2⟩
  · obtain ⟨a, _, G, _, hv, _⟩ := hsp
    rw [← hv.len, hl]
  · obtain ⟨a, hp, G, hA, hv, hk⟩ := hsp
    exact hbody f cdv Ar outer s G A a vs Q E hr hp hA hv hk
end Mi

set_option maxHeartbeats 2000000
namespace Mi
open PySem PySem.Spec PyProof.Rows L2 Evl
def rMin2' : List V → Hp → VK → Prop := fun xs H Q => ∃ i j, xs = [.int i, .int j] ∧ Q (.int (if j < i then j else i)) H
theorem cr_min2' {X : Cx} (hc : X.calm = true := by rfl) : CallR X (.builtin "min") rMin2' := call_min2 hc
theorem cr_sum_k {X : Cx} {K : PySem.W.Frag} (h : X.K = K := by rfl) (hc : X.calm = true := by rfl) : CallR X (.builtin "sum") (rSum K) := h ▸ cr_sum hc
theorem cr_all_k {X : Cx} {K : PySem.W.Frag} (h : X.K = K := by rfl) (hc : X.calm = true := by rfl) : CallR X (.builtin "all") (rAll K) := h ▸ cr_all hc
section
variable {K : PySem.W.Frag} {σ : L2.St} {G A H H' : Hp} {te ta tb tc : TE} {t u : TT} {tr : TA} {d d1 d2 d3 : Dd} {x y : V} {r r' : R2} {b1 b2 : Bool}
theorem rc_min2 {i j : Int} : Rc K rMin2' [.i i, .i j] (.i (if j < i then j else i)) := by
  rintro _ H1 (_ | ⟨rfl, _ | ⟨rfl, _ | _⟩⟩) Q q
  exact ⟨i, j, rfl, q _ H1 (Ex.refl H1) rfl⟩
theorem rc_sumI {ns : List Int} : Rc K (rSum K) [.l (vis ns)] (.i ns.sum) := by
  rintro _ H1 (_ | ⟨⟨p, rfl, hp⟩, _ | _⟩) Q q
  exact ⟨p, ns, rfl, hp, q _ H1 (Ex.refl H1) rfl⟩
theorem rc_allB {bs : List Bool} : Rc K (rAll K) [.l (bs.map V.bl)] (.b (bs.all id)) := by
  rintro _ H1 (_ | ⟨⟨p, rfl, hp⟩, _ | _⟩) Q q
  exact ⟨p, bs, rfl, hp, q _ H1 (Ex.refl H1) rfl⟩
theorem rc_allBN {bs : List Bool} : Rc K (rAll K) [.n (bs.map V.bl)] (.b (bs.all id)) := fun vs H1 h Q q => by
  cases h with
  | cons a b => exact rc_allB _ H1 (.cons a.n2l b) Q q
/-- a op b op' c -/
theorem er_chain (ha : Er K ta σ H d1) (hb : Er K tb σ H d2) (hr : Ro K r d1 d2 (.b b1)) (hc : b1 = true → Er K tc σ H d3) (hr' : b1 = true → Ro K r' d2 d3 (.b b2)) : Er K (tChain r r' ta tb tc) σ H (.b (b1 && b2)) := fun H1 e Q q =>
  ha H1 e _ fun v1 H2 e2 z1 => hb H2 (e.trans e2) _ fun v2 H3 e3 z2 => hr v1 v2 H3 (z1.mono e3) z2 _ fun w H4 e4 zw => ⟨b1, zw, by
    cases b1 with
    | true =>
      rw [if_pos rfl]
      exact hc rfl H4 (((e.trans e2).trans e3).trans e4) _ fun v3 H5 e5 z3 => hr' rfl v2 v3 H5 ((z2.mono e4).mono e5) z3 Q fun w H6 e6 z6 => q w H6 ((((e2.trans e3).trans e4).trans e5).trans e6) z6
    | false =>
      rw [if_neg Bool.false_ne_true]
      exact q _ H4 ((e2.trans e3).trans e4) rfl⟩
end
end Mi

set_option maxHeartbeats 2000000
namespace Mi
open PySem PySem.Spec PyProof.Rows L2 Evl
theorem cutS_mid (l : List Nat) (n m : Nat) (hm : m ≤ l.length) : cutS (S l) (some (n : Int)) (some (m : Int)) = S ((l.drop n).take (m - n)) := by
  unfold cutS
  rw [HT.sIx_nat, HT.sIx_nat, S_len, S_list]
  show S _ = S _
  congr 1
  have e2 : min m l.length = m := by omega
  by_cases h : n ≤ l.length
  · have e1 : min n l.length = n := by omega
    rw [e1, e2]
  · have e1 : min n l.length = l.length := by omega
    rw [e1, e2, List.drop_length, List.drop_of_length_le (by omega : l.length ≤ n), List.take_nil, List.take_nil]
section
variable {K : PySem.W.Frag} {σ : L2.St} {H : Hp} {te ta tb : TE} {t : TT}
theorem er_slMidS {l : List Nat} {n m : Nat} (h : Er K te σ H (.s (S l))) (hz : l.length ≤ 100000) (h1 : Er K ta σ H (.i (n : Int))) (h2 : Er K tb σ H (.i (m : Int))) (hm : m ≤ l.length) : Er K (tSl rSlS te (tPart ta) (tPart tb)) σ H (.s (S ((l.drop n).take (m - n)))) := by
  rw [← cutS_mid _ _ _ hm]
  exact er_slS h (by rw [S_len]; exact hz) (eo_of h1) (eo_of h2)
theorem er_dash {n : Nat} {te tn : TE} (h1 : Er K te σ H (.s (S [45]))) (h2 : Er K tn σ H (.i (n : Int))) (hn : n ≤ 1000) : Er K (tOp rMulS te tn) σ H (.s (S (List.replicate n 45))) := Er.to (er_op h1 h2 (ro_mulC hn (by decide))) (by rw [List.flatten_replicate_singleton])
/-- a text's sign at a place that is known to be whole and not below zero -/
theorem er_sign {l : List Nat} {n : Nat} (h : Er K te σ H (.s (S l))) (h2 : Er K ta σ H (.i (n : Int))) (hn : n < l.length) (hz : l.length ≤ 100000) : Er K (tOp rIxS te ta) σ H (.s (S [l.getD n 0])) := Er.to (er_op h h2 (ro_ixC (by omega) (by omega) hz)) (by rw [Int.toNat_natCast])
theorem er_num {ns : List Int} {n : Nat} (h : Er K te σ H (.l (vis ns))) (h2 : Er K ta σ H (.i (n : Int))) (hn : n < ns.length) : Er K (tOp (rIxL K) te ta) σ H (.i (ns.getD n 0)) := Er.to (er_op h h2 (ro_ixI (by omega) (by omega))) (by rw [Int.toNat_natCast])
theorem er_numN {ns : List Int} {n : Nat} (h : Er K te σ H (.n (vis ns))) (h2 : Er K ta σ H (.i (n : Int))) (hn : n < ns.length) : Er K (tOp (rIxL K) te ta) σ H (.i (ns.getD n 0)) := Er.to (er_op h h2 (ro_ixIN (by omega) (by omega))) (by rw [Int.toNat_natCast])
theorem er_numL {xs : List Int} {i : Nat} (h : Er K te σ H (.n (vis xs))) (h2 : Er K ta σ H (.i (i : Int))) (hn : i < xs.length) : Er K (tOp (rIxL K) te ta) σ H (.i (xs.getD i 0)) := er_numN h h2 hn
end
end Mi

set_option maxHeartbeats 2000000
namespace Mi
open PySem PySem.Spec PyProof.Rows L2 Evl
section
variable {K : PySem.W.Frag} {σ : L2.St} {G A H : Hp} {te to ti tl ta tb : TE} {t : TT} {tu : TS} {d e : Dd} {D : Ends} {ds es : List Dd} {b : Bool}
theorem s_setitem {l : Addr} {us : List V} {j : Nat} (hl : A l = some (.lst us)) (hg : G l = none) (hA : Ex G A) (h : Ef K te σ G d) (ha : Er K to σ A (.v (.ref l))) (hi : Er K ti σ A (.i (j : Int))) (hj : j < us.length)
    (k : ∀ w G' A', Step G A G' A' → Is K G' d w → G' l = none → A' l = some (.lst us) → D.nx σ (upd A' l (.lst (us.set j w)))) : tAsg te (gSub to ti rSetL) D σ A :=
  h G A (Ex.refl G) hA _ fun w G1 A1 s1 z1 => ha A1 s1.a _ fun v A2 e2 zv => hi A2 (s1.a.trans e2) _ fun i A3 e3 zi => by
    have ev : v = .ref l := zv
    have ei : i = .int (j : Int) := zi
    subst ev
    subst ei
    have l3 := e3 l _ (e2 l _ (s1.a l _ hl))
    refine ⟨l, us, (j : Int), j, rfl, rfl, l3, ?_, k w G1 A3 ((s1.trans (.on s1.v e2)).trans (.on (s1.v.trans e2) e3)) z1 (s1.f l (by rw [hl]; simp) hg) l3⟩
    unfold ixN
    simp
    omega
/-- an if without else: what holds behind it is said once -/
theorem a_whenR {tz : TS} (Pm : L2.St → Hp → Prop) (h : Et K t σ H b) (hr : ∀ σ' H', Pm σ' H' → tz D σ' H') (h1 : (∀ σ' H', Pm σ' H' → tz D σ' H') → b = true → ∀ H1, Ex H H1 → tu { D with nx := tz D } σ H1) (h2 : b = false → ∀ H1, Ex H H1 → Pm σ H1) : tSeq (tIfS t tu tNext) tz D σ H :=
  a_when h (h1 hr) fun hb H1 e1 => hr σ H1 (h2 hb H1 e1)
/-- o[j] = [.., ..], flat items -/
theorem s_setflat {l : Addr} {us xs : List V} {j : Nat} {tr : TA} (hl : A l = some (.lst us)) (hg : G l = none) (hA : Ex G A) (h : Era K tr σ A (xs.map Dd.v)) (hz : xs.length ≤ 100000) (ha : Er K to σ A (.v (.ref l))) (hi : Er K ti σ A (.i (j : Int))) (hj : j < us.length)
    (k : ∀ p G' A', Step G A G' A' → G' p = some (.lst xs) → G' l = none → A' l = some (.lst us) → D.nx σ (upd A' l (.lst (us.set j (.ref p))))) : tAsg (tLst tr) (gSub to ti rSetL) D σ A :=
  h A (Ex.refl A) _ fun ws A1 e1 z => by
    have ew := flat_all z
    subst ew
    refine ⟨sz_of hz, fun p hp => ?_⟩
    have s1 : Step G A (upd G p (.lst ws)) (upd A1 p (.lst ws)) := (Step.on hA e1).trans (.new (hA.trans e1) hp)
    refine ha _ s1.a _ fun v A2 e2 zv => hi A2 (s1.a.trans e2) _ fun i A3 e3 zi => ?_
    have ev : v = .ref l := zv
    have ei : i = .int (j : Int) := zi
    subst ev
    subst ei
    have l3 := e3 l _ (e2 l _ (s1.a l _ hl))
    exact ⟨l, us, (j : Int), j, rfl, rfl, l3, ixN_nat hj, k p _ A3 ((s1.trans (.on s1.v e2)).trans (.on (s1.v.trans e2) e3)) upd_same (s1.f l (by rw [hl]; simp) hg) l3⟩
/-- items that are read as lists where they stand as lists of ours -/
theorem isE_map {α : Type} {f g : α → Dd} (h : ∀ x H v, Is K H (f x) v → Is K H (g x) v) : ∀ {l : List α} {vs : List V}, IsE K H (l.map f) vs → IsE K H (l.map g) vs
  | [], _, h1 => h1
  | x :: r, _, h1 => by
    obtain ⟨y, s, rfl, a, b⟩ := h1
    exact ⟨y, s, rfl, h x H y a, isE_map h b⟩
theorem isE_set : ∀ {ds : List Dd} {vs : List V} {i : Nat} {d : Dd} {w : V}, IsE K H ds vs → Is K H d w → IsE K H (ds.set i d) (vs.set i w)
  | [], _, i, d, w, h, _ => by rw [show _ = [] from h]; rfl
  | x :: r, _, 0, d, w, h, z => by
    obtain ⟨y, s, rfl, a, b⟩ := h
    exact ⟨w, s, rfl, z, b⟩
  | x :: r, _, i + 1, d, w, h, z => by
    obtain ⟨y, s, rfl, a, b⟩ := h
    exact ⟨y, s.set i w, rfl, a, isE_set (i := i) b z⟩
/-- a place of a list of any items -/
theorem er_place {i : Nat} (h : Er K tl σ H (.L ds)) (h2 : Er K ta σ H (.i (i : Int))) (hd : ds[i]? = some d) : Er K (tOp (rIxL K) tl ta) σ H d := er_op h h2 (ro_ixLd hd)
end
/-- a stock's pairs as lists -/
def stD (st : List (List Nat × List Nat)) : List Dd := st.map fun p => Dd.L [.s (S p.1), .s (S p.2)]
theorem stD_at {st : List (List Nat × List Nat)} {i : Nat} {p : List Nat × List Nat} (h : st[i]? = some p) : (stD st)[i]? = some (Dd.L [.s (S p.1), .s (S p.2)]) := by
  rw [stD, List.getElem?_map, h]
  rfl
theorem stD_of {st : List (List Nat × List Nat)} {i : Nat} {d : Dd} (h : (stD st)[i]? = some d) : ∃ p, st[i]? = some p ∧ d = Dd.L [.s (S p.1), .s (S p.2)] := by
  rw [stD, List.getElem?_map] at h
  cases q : st[i]? with
  | none => rw [q] at h; cases h
  | some p => rw [q] at h; exact ⟨p, rfl, (Option.some.inj h).symm⟩
theorem stD_len {st : List (List Nat × List Nat)} : (stD st).length = st.length := by simp [stD]
end Mi

set_option maxHeartbeats 2000000
namespace Mi
open PySem PySem.Spec PyProof.Rows L2 Evl
theorem cr_isiT_k {X : Cx} {K : PySem.W.Frag} (h : X.K = K := by rfl) : CallR X (.builtin "isinstance") (rIsiT K) := h ▸ call_isiT
section
variable {K : PySem.W.Frag} {σ : L2.St} {G A H : Hp} {te tl : TE} {d : Dd} {ds : List Dd} {x : V}
/-- isinstance(x, (T1, T2)) -/
theorem er_isiT {n1 n2 : String} {b : Bool} (t : Value) (h : Er K te σ H d) (ht : ∀ H1 v, Is K H1 d v → TyX K H1 v t) (hk : PySem.W.kitAny K t [.type n1, .type n2] = some b) : Er K (tCB (rIsiT K) (tCons te (tCons (tTup (tCons (tC (.ty n1)) (tCons (tC (.ty n2)) tNil))) tNil))) σ H (.b b) := fun H1 e Q q =>
  h H1 e _ fun v H2 e2 z => ⟨sz_of (by simp), fun p hp => ⟨v, p, [.ty n1, .ty n2], t, [.type n1, .type n2], b, rfl, upd_same, .cons (.ty n1) (.cons (.ty n2) .nil), ht _ _ (z.mono (Ex.new hp)), hk, q _ _ (e2.trans (Ex.new hp)) rfl⟩⟩
/-- what a variable holds is walked, a list or a tuple -/
def iSeqV (K : PySem.W.Frag) (i : Nat) : TI := fun σ H R => ∃ a, σ[i]? = some (some (.ref a)) ∧ (((∃ xs, SqL K H a xs) ∧ R (Itl K a) H) ∨ ((∃ xs, SqT K H a xs) ∧ R (Itt K a) H))
theorem pi_seqV {X : Cx} {tg l : Expr} {i : Nat} (hl : PE X l (tVar i)) (h : X.K = K := by rfl) : PI X tg l (iSeqV K i) := by
  subst h
  refine ⟨fun pins s σ H R I h => ?_⟩
  obtain ⟨a, e, h | h⟩ := h
  · exact (pi_list hl).run pins s σ H R I ⟨.ref a, e, a, rfl, h.1, h.2⟩
  · exact (pi_tup hl).run pins s σ H R I ⟨.ref a, e, a, rfl, h.1, h.2⟩
theorem if_seqL {i : Nat} (hx : σ[i]? = some (some x)) (h : Is K G (.L ds) x) : Itf K (iSeqV K i) σ G ds := fun G1 A e1 e2 R r => by
  have q := if_list (ef_var hx h) G1 A e1 e2 R r
  obtain ⟨y, hy, a, rfl, q1, q2⟩ := q
  exact ⟨a, hy, .inl ⟨q1, q2⟩⟩
theorem if_seqU {i : Nat} (hx : σ[i]? = some (some x)) (h : Is K G (.U ds) x) : Itf K (iSeqV K i) σ G ds := fun G1 A e1 e2 R r => by
  have q := if_tup (ef_var hx h) G1 A e1 e2 R r
  obtain ⟨y, hy, a, rfl, q1, q2⟩ := q
  exact ⟨a, hy, .inr ⟨q1, q2⟩⟩
theorem ty_Ld {v : V} (h : Is K H (.L ds) v) : TyX K H v (.type "list") := by
  obtain ⟨p, vs, rfl, hp, _⟩ := h
  exact ty_l ⟨p, rfl, hp⟩
theorem ty_Ud {v : V} (h : Is K H (.U ds) v) : TyX K H v (.type "tuple") := by
  obtain ⟨p, vs, rfl, hp, _⟩ := h
  exact ty_u ⟨p, rfl, hp⟩
end
/-! ### texts, whole numbers, lists and tuples of such, nested -/
mutual
def tupD : Dd → Dd
  | .L ds => .U (tupL ds)
  | .U ds => .U (tupL ds)
  | d => d
def tupL : List Dd → List Dd
  | [] => []
  | d :: r => tupD d :: tupL r
end
mutual
def depD : Dd → Nat
  | .L ds => depL ds + 1
  | .U ds => depL ds + 1
  | _ => 0
def depL : List Dd → Nat
  | [] => 0
  | d :: r => max (depD d) (depL r)
end
mutual
def okD : Dd → Prop
  | .v (.str _) => True
  | .v (.int _) => True
  | .L ds => okL ds ∧ ds.length ≤ 1000
  | .U ds => okL ds ∧ ds.length ≤ 1000
  | _ => False
def okL : List Dd → Prop
  | [] => True
  | d :: r => okD d ∧ okL r
end
theorem tupL_map : ∀ ds : List Dd, tupL ds = ds.map tupD
  | [] => rfl
  | d :: r => by rw [tupL, tupL_map r]; rfl
theorem okL_at : ∀ {ds : List Dd} {i : Nat} {d : Dd}, okL ds → ds[i]? = some d → okD d
  | [], _, _, _, h => by simp at h
  | x :: r, 0, d, h, e => Option.some.inj e ▸ h.1
  | x :: r, i + 1, d, h, e => okL_at (i := i) h.2 e
theorem depL_at : ∀ {ds : List Dd} {i : Nat} {d : Dd}, ds[i]? = some d → depD d ≤ depL ds
  | [], _, _, h => by simp at h
  | x :: r, 0, d, e => by
    rw [← Option.some.inj e]
    exact Nat.le_max_left _ _
  | x :: r, i + 1, d, e => Nat.le_trans (depL_at (i := i) e) (Nat.le_max_right _ _)
/-- a def of which nothing is asked -/
theorem At.none {P : Program} {w : World} {K : PySem.W.Frag} {mg : Str → Option Value} {base : Heap} {x : Str} {st : Stmt} {ps : List Str} {T : Type} {pre : T → Prop} {args : T → List Dd} {ret : T → Dd} (h : At K mg x st ps) (hn : ∀ a, ¬ pre a) : Has P w K mg base 0 x ps (spF K pre args ret) := by
  obtain ⟨f, fd, hm, F, b0, b1, b2⟩ := h.ex
  refine ⟨f, fd, hm, F.kp, ⟨fun vs H Q E hsp => ?_, fun A outer s H args us vs Q E hr he hb hv hsp => ?_⟩, b0, b1, b2⟩
  · obtain ⟨a, hp, _⟩ := hsp
    exact absurd hp (hn a)
  · obtain ⟨a, hp, _⟩ := hsp
    exact absurd hp (hn a)
end Mi

set_option maxHeartbeats 2000000
namespace Mi
open PySem PySem.Spec PyProof.Rows L2 Evl
/-! ### great numbers -/
def CDivWN (i j : Int) : Prop := j ≠ 0 ∧ j.natAbs.log2 < 9000
theorem op_fdivWN {X : Cx} : OpR X (binaryOp .FloorDiv) (rI CDivWN fun i j => .int (i.fdiv j)) := opI fun _ _ _ _ _ _ _ hc q => floordiv_int hc.1 q (.inl (PyProof.noPylong_of_log2 hc.2))
def Bd (n : Nat) (x : Int) : Prop := x.natAbs < 2 ^ n
theorem Bd.mono {n m : Nat} {x : Int} (h : Bd n x) (e : n ≤ m) : Bd m x := Nat.lt_of_lt_of_le h (Nat.pow_le_pow_right (by decide) e)
theorem Bd.mul {n m : Nat} {x y : Int} (h : Bd n x) (g : Bd m y) : Bd (n + m) (x * y) := wide_lt h g
theorem Bd.add {n : Nat} {x y : Int} (h : Bd n x) (g : Bd n y) : Bd (n + 1) (x + y) := by
  unfold Bd at *
  rw [Nat.pow_succ]
  omega
theorem Bd.sub {n : Nat} {x y : Int} (h : Bd n x) (g : Bd n y) : Bd (n + 1) (x - y) := by
  unfold Bd at *
  rw [Nat.pow_succ]
  omega
theorem Bd.neg {n : Nat} {x : Int} (h : Bd n x) : Bd n (-x) := by
  unfold Bd at *
  omega
theorem Bd.le {n : Nat} {x y : Int} (h : Bd n x) (g : y.natAbs ≤ x.natAbs) : Bd n y := Nat.lt_of_le_of_lt g h
section
variable {K : PySem.W.Frag} {σ : L2.St} {H H0 H' : Hp} {te tl ta tb tc : TE} {t u : TT} {tr : TA} {d d0 d1 d2 : Dd} {D : Ends} {tu tw tz : TS} {x y : V} {ds es : List Dd} {b : Bool}
theorem ro_mulW {i j : Int} {n m : Nat} (h : Bd n i) (g : Bd m j) (h0 : 0 < n) (h1 : 0 < m) (e : n + m ≤ 1000000) : Ro K (rI CMulW fun i j => .int (i * j)) (.i i) (.i j) (.i (i * j)) := ro_I (wide_mul h g h0 h1 e)
theorem ro_divWN {i j : Int} {n : Nat} (h0 : j ≠ 0) (h : Bd n j) (hn : 0 < n) (h9 : n ≤ 9000) : Ro K (rI CDivWN fun i j => .int (i.fdiv j)) (.i i) (.i j) (.i (i.fdiv j)) := ro_I ⟨h0, Nat.lt_of_lt_of_le (PySem.Flt.log2_lt_of hn h) h9⟩
theorem ro_divW {i j : Int} (h : 0 < j) (h2 : j < 4611686018427387904) : Ro K (rI CDivW fun i j => .int (i / j)) (.i i) (.i j) (.i (i / j)) := ro_I (wide_div (b := 62) h (by omega) (by decide) (by decide))
theorem er_un {r : V → Hp → VK → Prop} (h : Er K te σ H d1) (hr : ∀ x H1, Is K H1 d1 x → ∀ Q : VK, (∀ v H2, Ex H1 H2 → Is K H2 d v → Q v H2) → r x H1 Q) : Er K (tUn r te) σ H d := fun H1 e Q q =>
  h H1 e _ fun v H2 e2 z => hr v H2 z Q fun w H3 e3 z3 => q w H3 (e2.trans e3) z3
theorem er_neg {i : Int} (h : Er K te σ H (.i i)) : Er K (tUn (rU fun i => .int (-i)) te) σ H (.i (-i)) := er_un h fun x H1 z Q q => ⟨i, z, q _ H1 (Ex.refl H1) rfl⟩
theorem ro_1012 : Ro K (rI CPow fun i j => .int (i ^ j.toNat)) (.i 10) (.i 12) (.i 1000000000000) := ro_I (K := K) (C := CPow) (g := fun i j => .int (i ^ j.toNat)) (i := 10) (j := 12) ⟨by decide, by decide, by decide⟩
theorem ro_1015 : Ro K (rI CPow fun i j => .int (i ^ j.toNat)) (.i 10) (.i 15) (.i 1000000000000000) := ro_I (K := K) (C := CPow) (g := fun i j => .int (i ^ j.toNat)) (i := 10) (j := 15) ⟨by decide, by decide, by decide⟩
/-! ### is, for truth values; gcd; abs -/
theorem ro_notBl {a b : Bool} : Ro K rNotB (.b a) (.b b) (.b (!decide (a = b))) := by
  rintro _ _ H1 rfl rfl Q q
  exact ⟨a, b, rfl, rfl, q _ H1 (Ex.refl H1) rfl⟩
theorem ro_isBl {a b : Bool} : Ro K rIsB (.b a) (.b b) (.b (decide (a = b))) := by
  rintro _ _ H1 rfl rfl Q q
  exact ⟨a, b, rfl, rfl, q _ H1 (Ex.refl H1) rfl⟩
def gcdI (a b : Int) : Int := ((Nat.gcd a.natAbs b.natAbs : Nat) : Int)
theorem rc_gcd {a b : Int} : Rc K rGcd [.i a, .i b] (.i (gcdI a b)) := by
  rintro _ H1 (_ | ⟨rfl, _ | ⟨rfl, _ | _⟩⟩) Q q
  exact ⟨a, b, rfl, q _ H1 (Ex.refl H1) rfl⟩
def rAbs : List V → Hp → VK → Prop := fun xs H Q => ∃ i, xs = [.int i] ∧ Q (.int (if i < 0 then -i else i)) H
theorem cr_abs {X : Cx} : CallR X (.builtin "abs") rAbs := call_abs
theorem rc_abs {i : Int} : Rc K rAbs [.i i] (.i ((i.natAbs : Nat) : Int)) := by
  rintro _ H1 (_ | ⟨rfl, _ | _⟩) Q q
  exact ⟨i, rfl, q _ H1 (Ex.refl H1) (by
    show V.int _ = V.int _
    congr 1
    split <;> omega)⟩
/-! ### lists or tuples -/
inductive Sq : Dd → List Dd → Prop where
  | N (ds : List Dd) : Sq (.N ds) ds
  | U (ds : List Dd) : Sq (.U ds) ds
def rIxE (K : PySem.W.Frag) : R2 := fun x y H Q => rIxL K x y H Q ∨ rIxT K x y H Q
theorem ix_seq_k {X : Cx} (h : X.K = K := by rfl) : IxR X (rIxE K) := h ▸ IxR.or ix_list ix_tup
theorem ro_ixE {i : Nat} (h : Sq d0 ds) (hd : ds[i]? = some d) : Ro K (rIxE K) d0 (.i (i : Int)) d := by
  cases h with
  | N => exact fun v w H1 a b Q q => .inl (ro_ixNd hd v w H1 a b Q q)
  | U => exact fun v w H1 a b Q q => .inr (ro_ixUd hd v w H1 a b Q q)
theorem rc_lenE (h : Sq d0 ds) : Rc K (rLenS K) [d0] (.i (ds.length : Int)) := by
  cases h with
  | N => exact rc_lenNd
  | U => exact rc_lenUd
def gSeq (K : PySem.W.Frag) (n : Nat) (t : TGs) : TG := fun v σ H Q => gTup K n t v σ H Q ∨ gLst K n t v σ H Q
theorem pg_seq {X : Cx} {pos : Pos} {es : List Expr} {k : Nat} {t : TGs} {n : Nat} (hc : X.calm = true) (h : PGs X es t) (hK : X.K = K := by rfl)
    (hn : (assignEach es X.env).length = n := by rfl) (hst : (assignEach es X.env).findIdx? (·.1) = none := by rfl) : PG X (.Tuple es k pos) (gSeq K n t) := by
  subst hK
  refine ⟨fun pins s σ H v u Q I r hw => ?_⟩
  rcases hw with hw | hw
  · exact (pg_tup hc h hn hst).run pins s σ H v u Q I r hw
  · exact (pg_lst hc h hn hst).run pins s σ H v u Q I r hw
theorem g_pair {j1 j2 : Nat} {v : V} {Q : L2.St → Hp → Prop} (h : Sq d0 [d1, d2]) (hv : Is K H d0 v) (k : ∀ v1 v2, Is K H d1 v1 → Is K H d2 v2 → Q ((σ.set j1 (some v1)).set j2 (some v2)) H) : gSeq K 2 (gCons (gName j1) (gCons (gName j2) gNil)) v σ H Q := by
  cases h with
  | N =>
    obtain ⟨T, vs, rfl, hT, x, r, rfl, hx, y, r2, rfl, hy, hr⟩ := hv
    have er : r2 = [] := hr
    subst er
    exact .inr ⟨T, [x, y], rfl, sq_of hT, rfl, x, [y], rfl, y, [], rfl, rfl, k x y hx hy⟩
  | U =>
    obtain ⟨T, vs, rfl, hT, x, r, rfl, hx, y, r2, rfl, hy, hr⟩ := hv
    have er : r2 = [] := hr
    subst er
    exact .inl ⟨T, [x, y], rfl, hT, rfl, x, [y], rfl, y, [], rfl, rfl, k x y hx hy⟩
/-- (x, y) = a pair, both flat -/
theorem a_pair {i j : Nat} {xa xb : V} (h : Er K te σ H d0) (hs : Sq d0 [.v xa, .v xb]) (k : ∀ H1, Ex H H1 → tz D ((σ.set i (some xa)).set j (some xb)) H1) : tSeq (tAsg te (gSeq K 2 (gCons (gName i) (gCons (gName j) gNil)))) tz D σ H :=
  h H (Ex.refl H) _ fun v H1 e z => g_pair hs z fun v1 v2 h1 h2 => by
    have e1 : v1 = xa := h1
    have e2 : v2 = xb := h2
    subst e1
    subst e2
    exact k H1 e
/-- both of any kind -/
theorem a_pairD {i j : Nat} (h : Er K te σ H d0) (hs : Sq d0 [d1, d2]) (k : ∀ v1 v2 H1, Ex H H1 → Is K H1 d1 v1 → Is K H1 d2 v2 → tz D ((σ.set i (some v1)).set j (some v2)) H1) : tSeq (tAsg te (gSeq K 2 (gCons (gName i) (gCons (gName j) gNil)))) tz D σ H :=
  h H (Ex.refl H) _ fun v H1 e z => g_pair hs z fun v1 v2 h1 h2 => k v1 v2 H1 e h1 h2
/-! ### dicts that nobody reads -/
theorem er_d0 : Er K tDNewK σ H .D := fun H1 _ _ q p hp => q _ _ (Ex.new hp) ⟨p, [], rfl, upd_same⟩
theorem er_d2 {a b c e : Int} : Er K (tDisp [(tC (.int a), tC (.int b)), (tC (.int c), tC (.int e))]) σ H .D := fun H1 _ _ q p hp =>
  ⟨upd_same, [(.inl a, .int b), (.inl c, .int e)], rfl, by simp, q _ _ (Ex.mut (Ex.new hp) hp) ⟨p, _, rfl, upd_same⟩⟩
/-! ### a loop over a list of ours, its items of any kind -/
theorem b_forN {j : Nat} (h : Er K tl σ H (.N ds)) (Pv : Nat → L2.St → Hp → Prop) (h0 : ∀ H1, Ex H H1 → Pv 0 σ H1)
    (hs : ∀ H1, Ex H H1 → ∀ i d v σ' H', ds[i]? = some d → (∀ H2, Ex H1 H2 → Is K H2 d v) → Pv i σ' H' → Ex H1 H' → tu { D with nx := fun σ2 H2 => Pv (i + 1) σ2 H2 ∧ Ex H1 H2, ct := fun σ2 H2 => Pv (i + 1) σ2 H2 ∧ Ex H1 H2, bk := tz D } (σ'.set j (some v)) H')
    (hd : ∀ σ' H', Ex H H' → Pv ds.length σ' H' → tz D σ' H') : tSeq (tFor (iList K tl) (gName j) tu) tz D σ H :=
  h H (Ex.refl H) _ fun v H1 e1 ⟨p, vs, ep, hp, hE⟩ => by
    subst ep
    have z := isE_all.mp hE
    have len := z.len
    refine ⟨p, rfl, ⟨vs, sq_of hp⟩, ?_⟩
    refine for_list (D := { D with nx := tz D }) (xs := vs) (fun i σ' H' => Pv i σ' H' ∧ Ex H1 H') ⟨h0 _ e1, Ex.refl _⟩ (fun i σ' H' _ q => sq_of (q.2 p _ hp)) (fun i v σ' H' hv q => ?_) fun σ' H' q => hd σ' H' (e1.trans q.2) (by rw [len]; exact q.1)
    obtain ⟨d, hd', hi⟩ := isAll_at z hv
    exact hs _ e1 i d v σ' H' hd' (fun H2 e3 => hi.mono e3) q.1 q.2
theorem b_forR {ta : TA} {j : Nat} {n : Nat} (h : Era K ta σ H [.v (.int (n : Int))]) (hn : n ≤ 2000000) (Pv : Nat → L2.St → Hp → Prop) (h0 : ∀ H1, Ex H H1 → Pv 0 σ H1)
    (hs : ∀ (i : Nat) σ' H', i < n → Pv i σ' H' → tu { D with nx := Pv (i + 1), ct := Pv (i + 1), bk := tz D } (σ'.set j (some (.int (i : Int)))) H') (hd : ∀ σ' H', Pv n σ' H' → tz D σ' H') : tSeq (tFor (iRng1 ta) (gName j) tu) tz D σ H :=
  h H (Ex.refl H) _ fun vs H1 e z => by
    rcases z with _ | ⟨rfl, _ | _⟩
    exact ⟨(n : Int), rfl, by omega, by omega, for_range (D := { D with nx := tz D }) (lo := 0) (n := (n : Int).toNat) Pv (h0 H1 e) (fun i σ' H' hi p => by
      have e0 : (0 : Int) + (i : Int) = (i : Int) := Int.zero_add _
      show tu { D with nx := Pv (i + 1), ct := Pv (i + 1), bk := tz D } (σ'.set j (some (.int ((0 : Int) + (i : Int))))) H'
      rw [e0]
      exact hs i σ' H' (by omega) p) (by rw [Int.toNat_natCast]; exact hd)⟩
/-! ### deep == of pairs of whole numbers -/
theorem ro_eqUU {a b c e : Int} : Ro K (rEqD K) (.U [.i a, .i b]) (.U [.i c, .i e]) (.b (decide ([a, b] = [c, e]))) := fun x y H1 h1 h2 => ro_eqU (ns := [a, b]) (ms := [c, e]) x y H1 (Is.U2u (xs := vis [a, b]) h1) (Is.U2u (xs := vis [c, e]) h2)
theorem ro_eqNN {a b c e : Int} : Ro K (rEqD K) (.N [.i a, .i b]) (.N [.i c, .i e]) (.b (decide ([a, b] = [c, e]))) := fun x y H1 h1 h2 => ro_eqL (ns := [a, b]) (ms := [c, e]) x y H1 (Is.N2n (xs := vis [a, b]) h1).n2l (Is.N2n (xs := vis [c, e]) h2).n2l
theorem dp_pair {a b : Int} {H1 : Hp} {x : V} (h : Is K H1 (.N [.i a, .i b]) x) : Dp K H1 x (.list [.int a, .int b]) := by
  obtain ⟨p, rfl, hp⟩ := (Is.N2n (xs := vis [a, b]) h).n2l
  exact .lst hp (.cons (.int a) (.cons (.int b) .nil))
theorem dp_pairs {a b c e : Int} {H1 : Hp} {x : V} (h : Is K H1 (.N [.N [.i a, .i b], .N [.i c, .i e]]) x) : Dp K H1 x (.list [.list [.int a, .int b], .list [.int c, .int e]]) := by
  obtain ⟨p, vs, rfl, hp, x, r, rfl, hx, y, r2, rfl, hy, hr⟩ := h
  have er : r2 = [] := hr
  subst er
  exact .lst (sq_of hp) (.cons (dp_pair hx) (.cons (dp_pair hy) .nil))
theorem ro_eqPP {a b c e : Int} : Ro K (rEqD K) (.N [.N [.i a, .i b], .N [.i c, .i e]]) (.N [.N [.i a, .i b], .N [.i c, .i e]]) (.b true) := by
  intro x y H1 h1 h2 Q q
  refine ⟨_, _, dp_pairs h1, dp_pairs h2, ?_, ?_, q _ H1 (Ex.refl H1) ?_⟩
  · simp [SeqAt.shaped, PyData.canLay0, PyData.depth, PyData.canLayAll0, PyData.depthAll]
  · simp [SeqAt.shaped, PyData.canLay0, PyData.depth, PyData.canLayAll0, PyData.depthAll]
  · show V.bl _ = V.bl true
    simp [PyData.eqv, PyData.eqvAll]
end
/-! ### kinds of values -/
def tyN : Dd → String
  | .v (.int _) => "int"
  | .v (.bl _) => "bool"
  | .v .non => "NoneType"
  | .v (.str _) => "str"
  | .N _ => "list"
  | .U _ => "tuple"
  | .D => "dict"
  | _ => "?"
theorem ty_of {K : PySem.W.Frag} {H : Hp} : ∀ {d : Dd} {v : V}, tyN d ≠ "?" → Is K H d v → TyX K H v (.type (tyN d))
  | .v (.int i), _, _, h => by rw [show _ = V.int i from h]; exact .base (.int i)
  | .v (.bl b), _, _, h => by rw [show _ = V.bl b from h]; exact .base (.bl b)
  | .v .non, _, _, h => by rw [show _ = V.non from h]; exact .base .non
  | .v (.str x), _, _, h => by rw [show _ = V.str x from h]; exact .base (.str x)
  | .N ds, _, _, h => ty_Ld h.N2L
  | .U ds, _, _, h => ty_Ud h
  | .D, _, _, h => by obtain ⟨p, kvs, rfl, e⟩ := h; exact .base (.dK e)
  | .v (.byt _), _, n, _ => absurd rfl n
  | .v (.flt _), _, n, _ => absurd rfl n
  | .v (.ref _), _, n, _ => absurd rfl n
  | .v (.ty _), _, n, _ => absurd rfl n
  | .P _, _, n, _ => absurd rfl n
  | .l _, _, n, _ => absurd rfl n
  | .n _, _, n, _ => absurd rfl n
  | .u _, _, n, _ => absurd rfl n
  | .L _, _, n, _ => absurd rfl n
theorem tyN_cases : ∀ {d : Dd}, tyN d ≠ "?" → tyN d = "int" ∨ tyN d = "bool" ∨ tyN d = "NoneType" ∨ tyN d = "str" ∨ tyN d = "list" ∨ tyN d = "tuple" ∨ tyN d = "dict"
  | .v (.int i), _ => .inl rfl
  | .v (.bl b), _ => .inr (.inl rfl)
  | .v .non, _ => .inr (.inr (.inl rfl))
  | .v (.str x), _ => .inr (.inr (.inr (.inl rfl)))
  | .N ds, _ => .inr (.inr (.inr (.inr (.inl rfl))))
  | .U ds, _ => .inr (.inr (.inr (.inr (.inr (.inl rfl)))))
  | .D, _ => .inr (.inr (.inr (.inr (.inr (.inr rfl)))))
  | .v (.byt _), n => absurd rfl n
  | .v (.flt _), n => absurd rfl n
  | .v (.ref _), n => absurd rfl n
  | .v (.ty _), n => absurd rfl n
  | .P _, n => absurd rfl n
  | .l _, n => absurd rfl n
  | .n _, n => absurd rfl n
  | .u _, n => absurd rfl n
  | .L _, n => absurd rfl n
theorem kit2' {K : PySem.W.Frag} {n m1 m2 : String} {b1 b2 : Bool} (h1 : kitB n m1 = some b1) (h2 : kitB n m2 = some b2) : PySem.W.kitAny K (.type n) [.type m1, .type m2] = some (b1 || b2) := by
  have e1 : PySem.W.kitOne K (.type n) (.type m1) = some b1 := kit_ty h1
  have e2 : PySem.W.kitOne K (.type n) (.type m2) = some b2 := kit_ty h2
  unfold PySem.W.kitAny
  rw [e1]
  cases b1 with
  | true => rfl
  | false =>
    show PySem.W.kitAny K (.type n) [.type m2] = some b2
    unfold PySem.W.kitAny
    rw [e2]
    cases b2 with
    | true => rfl
    | false => rfl
theorem kit_int {d : Dd} (h : tyN d ≠ "?") : kitB (tyN d) "int" = some (tyN d == "int" || tyN d == "bool") := by
  rcases tyN_cases h with e | e | e | e | e | e | e <;> rw [e] <;> decide +kernel
theorem kit_bool {d : Dd} (h : tyN d ≠ "?") : kitB (tyN d) "bool" = some (tyN d == "bool") := by
  rcases tyN_cases h with e | e | e | e | e | e | e <;> rw [e] <;> decide +kernel
theorem kit_list {d : Dd} (h : tyN d ≠ "?") : kitB (tyN d) "list" = some (tyN d == "list") := by
  rcases tyN_cases h with e | e | e | e | e | e | e <;> rw [e] <;> decide +kernel
theorem kit_tuple {d : Dd} (h : tyN d ≠ "?") : kitB (tyN d) "tuple" = some (tyN d == "tuple") := by
  rcases tyN_cases h with e | e | e | e | e | e | e <;> rw [e] <;> decide +kernel
section
variable {K : PySem.W.Frag} {d : Dd}
theorem rc_isiD {n : String} {b : Bool} (h : tyN d ≠ "?") (hk : kitB (tyN d) n = some b) : Rc K (rIsi K) [d, .v (.ty n)] (.b b) := rc_isi (.type (tyN d)) (fun _ _ z => ty_of h z) (kit_ty hk)
end
end Mi

set_option maxHeartbeats 2000000
namespace Mi
open PySem PySem.Spec PyProof.Rows L2 Evl
/-! ### iter(t), t a tuple -/
abbrev itTup (t : Addr) (i : Nat) : Obj := { cls := .type "tuple_iterator", data := .fields #[.ref t, .int i 0] }
def TupO (t it : Addr) (i : Nat) : HO := .ext fun h => h.get? it = some (itTup t i)
theorem tupO_ok {P : Program} {w : World} {H : Hp} {h : Heap} {t it : Addr} {i : Nat} (e : h.get? it = some (itTup t i)) : ObjOk P w H h it (TupO t it i) := ⟨e, ⟨_, e⟩, fun h1 h2 q k => k _ q⟩
theorem call_iter_tup {prog : Program} {w : World} {A : Around} {E : Value → Shared → Prop} {s : Shared} {t : Addr} {items : Array Value} {Q : Value → Shared → Prop} (ht : s.heap.IsTuple t items) (h : Q (.ref s.heap.objs.size) { s with heap := s.heap.push (itTup t 0) }) : wpAny (model prog w) A (call (.builtin "iter") [.ref t]) Q E s := by
  refine Calls.call_function_entry (by decide +kernel) (by decide +kernel) PySem.W.kdk_entry_iter (PySem.W.kdk_args_iter _) ?_
  unfold Builtin.«iter»
  refine wpAny_bind (m := someArgs "iter" 1 2 _) (wpAny_of_eq (a := [Value.ref t]) (by first | rfl | kernel_rfl!) ?_)
  show wpAny _ _ (pyIter (.ref t) >>= _) _ _ _
  refine wpAny_bind (wpAny_pyIter_tuple ht ?_)
  exact wpAny_pure ⟨_, rfl, h⟩
def rIterT (K : PySem.W.Frag) (n : Nat) : List V → Hp → VK → Prop := fun xs H Q => ∃ (l : Addr) (zs : List V), xs = [.ref l] ∧ SqT K H l zs ∧ ∀ it, H it = Option.none → n ≤ it → Q (.ref it) (upd H it (TupO l it 0))
theorem cr_iterT {X : Cx} {K : PySem.W.Frag} {n : Nat} (hK : X.K = K := by rfl) (hn : X.s_0.heap.objs.size = n := by rfl) : CallR X (.builtin "iter") (rIterT K n) := by
  subst hK hn
  intro pins s σ H xs us Q I r h
  obtain ⟨l, zs, rfl, hq, q⟩ := h
  obtain ⟨u, rfl, ru⟩ := vals1 r
  cases ru
  obtain ⟨its, rv, pl, hz⟩ := I.tuple hq
  refine call_iter_tup (show s.heap.IsTuple l its.toArray from pl) ?_
  exact ⟨.ref s.heap.objs.size, _, I.laid (t' := s.toks) (fun b u e => Heap.get?_push_of_some _ e) (Nat.le_refl _) (tupO_ok (Heap.get?_push_size _ rfl)), rfl, q _ (I.hok.fresh (Nat.le_refl _)) I.sz⟩
/-! ### __iter__ that answers iter(self.f), f a tuple: the iterator is young -/
section
variable {P : Program} {w : World} {K : PySem.W.Frag} {mg : Str → Option Value} {base : Heap} {k : Nat} {f : Addr} {fd : FuncData} {N : List Str} {st : Stmt} {fl : Str} {x0 qual : Str}
/-- what is asked of such a def -/
structure IterFn (P : Program) (w : World) (K : PySem.W.Frag) (mg : Str → Option Value) (base : Heap) (k : Nat) (f : Addr) (C : Addr) (fl : Str) : Prop where
  it : PySem.W.findIn K (.ref C) "__iter__" = some (some (.ref f))
  fn : PySem.W.isFn K (.ref f) = true
  run : ∀ (A : Around) (outer : List Env) (s : Shared) (H : Hp) (x dx : Addr) (fs : List (Str × V)) (a : Addr) (zs : List V), Room k A → Env0 P w K mg base A outer s H → H x = some (.ins C dx fs) → fs.lookup fl = some (.ref a) → SqT K H a zs →
    codeAny (model P w) A (.call (.ref f) ⟨[.ref x], []⟩) (CR CX0 outer P w H s (fun v H' => ∃ it, v = .ref it ∧ s.heap.objs.size ≤ it ∧ H it = none ∧ H' = upd H it (TupO a it 0)) E0) s
theorem iter_mk {C : Addr} (F : Fun K x0 qual st f fd) (S : FnScope N ["self"] (defScope st)) (hi : PySem.W.findIn K (.ref C) "__iter__" = some (some (.ref f))) (hfn : PySem.W.isFn K (.ref f) = true) (cl : Cls K C) (na : NoAttr K C fl) (hN : N = (["self"] : List Str))
    (hb : Binds K fd ["self"] [])
    (hbody : ∀ (cdv : Value) (A : Around) (outer : List Env) (s : Shared) (H : Hp), Room k (A.deeper (envOfC qual (defScope st) s.heap.objs.size f cdv)) →
      PSs (cxOf CX0 P w K mg base N qual (defScope st) f cdv A outer s H E0).nox (defBody st) (tRet (tCB (rIterT K s.heap.objs.size) (tCons (tFld K (tVar 0) fl) tNil)))) : IterFn P w K mg base (k + 1) f C fl := by
  obtain ⟨oc, od, kV, doc, pm, an, cdv, ct, osl, rfl, lk, hcd⟩ := F.ex
  refine ⟨hi, hfn, fun A outer s H x dx fs a zs hr e0 hx hf hz => ?_⟩
  have KX : K.In s.heap := e0.mod.kin.keeps fun b o e => (e0.bs b o e).1
  have lim : s.heap.NoLimit := e0.mod.nolimit.keeps fun b o e => (e0.bs b o e).1
  have hkind : ∀ y ∈ (["self"] : List Str).zip [Value.ref x], (defScope st).names.lookup y.1 = some .local ∨ ((defScope st).names.lookup y.1 = some .cell ∧ ((cellsFrom (s.heap.objs.size + 1) (defScope st).names []).lookup y.1).isSome = true) := fun ⟨n, v⟩ hy => by
    rcases S.par n (List.of_mem_zip hy).1 with q | q
    · exact .inl q
    · exact .inr ⟨q, PySem.W.cellsFrom_some _ _ _ (.inl q)⟩
  have bd := hb s [.ref x] KX rfl
  rw [List.append_nil] at bd
  refine codeAny_call_function hr.depth (KX _ _ lk) rfl S.co S.gen rfl (PySem.W.codeRec_of KX hcd) (bd _ _ _ _ ?_)
  refine wpAny_newFunctionEnv_cells S.kind hkind fun env he s1 x1 => ?_
  subst he
  refine ⟨lim.keeps x1.toInCall.keep, codeAny_func ?_⟩
  have ht := (hbody cdv A outer s H (hr.deeper _)).nox
  have I : Inv (cxOf CX0 P w K mg base N qual (defScope st) f cdv A outer s H E0) [] (start N [.ref x]) H s1 := inv_start S hr.hd e0 rfl (.cons rfl .nil) x1
  have hq : tRet (tCB (rIterT K s.heap.objs.size) (tCons (tFld K (tVar 0) fl) tNil)) { nx := fun _ H' => False, rt := fun v H' => ∃ it, v = .ref it ∧ s.heap.objs.size ≤ it ∧ H it = none ∧ H' = upd H it (TupO a it 0) } (start N [.ref x]) H := by
    subst hN
    exact ⟨.ref x, rfl, x, C, dx, fs, .ref a, rfl, hx, cl, na, hf, a, zs, rfl, hz, fun it hn hle => ⟨it, rfl, hle, hn, rfl⟩⟩
  refine wpAny_mono (ht.run [] s1 (start N [.ref x]) H _ I hq) (fun fl' s' hs => ?_) fun e s' hs => hs
  cases fl' with
  | ret u =>
    obtain ⟨v, σ', H', J, rv, q⟩ := hs
    exact ⟨v, H', J.os, J.bare, J.base, J.hok, rv, q⟩
  | next =>
    obtain ⟨σ', H', J, q⟩ := hs
    exact False.elim q
  | brk =>
    obtain ⟨_, _, _, q⟩ := hs
    exact False.elim q
  | cont =>
    obtain ⟨_, _, _, q⟩ := hs
    exact False.elim q
end
def iOwn (K : PySem.W.Frag) (C : Addr) (fl : Str) (te : TE) : TI := fun σ H R => te σ H fun v H1 => ∃ x dx fs a zs, v = .ref x ∧ H1 x = some (.ins C dx fs) ∧ fs.lookup fl = some (.ref a) ∧ SqT K H1 a zs ∧ R (Itt K a) H1
theorem pi_own {X : Cx} {K : PySem.W.Frag} {tg l : Expr} {tl : TE} {k : Nat} {f C : Addr} {fl : Str} (F : IterFn X.prog X.w X.K X.mg X.base k f C fl) (hr : Room k X.A) (hl : PE X l tl) (hK : X.K = K := by rfl) : PI X tg l (iOwn K C fl tl) := by
  subst hK
  refine ⟨fun pins s σ H R I h => ?_⟩
  refine thn (hl.run pins s σ H _ I h) fun v s1 ⟨y, H1, I1, r1, q1⟩ => ?_
  obtain ⟨x, dx, fs, a, zs, e, hx, hf, hz, q⟩ := q1
  subst e
  cases r1
  obtain ⟨mA, J, _⟩ := ins_get I1.hok hx
  obtain ⟨od, J, _⟩ := J.look
  obtain ⟨m, hF⟩ := I1.fr
  refine PySem.W.owit_iter hF I1.ok.mod.kin J F.it F.fn ?_
  refine wpAny_call (codeAny_mono (F.run X.A X.stack s1 H1 x dx fs a zs hr I1.env0 hx hf hz) fun r s' hq => ?_)
  cases r with
  | error e => exact pass0 pins σ H1 s1 e s' I1 hq
  | ok fl' =>
    cases fl' with
    | ret u =>
      obtain ⟨v, H', I2, rv, it, rfl, hle, hn, rfl⟩ := I1.after hq
      cases rv
      have hg : s'.heap.get? it = some (itTup a 0) := (I2.hok it _ upd_same).1
      have I3 : Inv X pins σ H1 s' := by
        have := ItX.inv_drop I2 (show upd H1 it (TupO a it 0) it = some (.ext _) from upd_same)
        rwa [ItX.dropH_upd hn] at this
      have ti : s'.heap.IsTupleIter it a 0 := ⟨_, hg, rfl, rfl⟩
      refine wpAny_specialOf ti.typeIs PySem.F.slot_tuple_iterator_next.lookup ?_
      refine ⟨it, [it], _, _, H1, rfl, I3, turn_tuple a _, ti, fun b hb => ?_, q⟩
      have e : b = it := by simpa using hb
      subst e
      exact I1.fpOk hle hn
    | next => exact False.elim hq
    | brk => exact False.elim hq
    | cont => exact False.elim hq
end Mi

set_option maxHeartbeats 2000000
namespace Mi
open PySem PySem.Spec PyProof.Rows L2 Evl
open Sem (wp)
open AutoSeq1 (wpAny_loadPart')
/-! ### enumerate(t), t a tuple -/
theorem meets_enumT (l : Addr) (items : Array Value) (n : Nat) (dct : Option Addr) (sl : Array (Option Value)) :
    Meets (Builtin.«enumerate.__new__» ⟨[.type "enumerate", .ref l], []⟩) (fun _ R s => s.heap.get? l = some { cls := .type "tuple", dict := dct, data := .seq items n, slots := sl } ∧
      R (.ok (.ret (.ref (s.heap.push (itTup l 0)).objs.size)))
        { s with heap := (s.heap.push (itTup l 0)).push { cls := .type "enumerate", data := .fields #[.none, .bool false, .ref s.heap.objs.size, rawInt 0, .none, .none] } }) :=
  .of_wp fun prog w A R s h => by
    obtain ⟨hp, g, d, tk, os⟩ := s; obtain ⟨hl, h⟩ := h
    have hsub := sub_enumerate
    have hL : Heap.IsTuple (Shared.heap ⟨hp, g, d, tk, os⟩) l items := ⟨_, hl, rfl, n, rfl⟩
    wp_walk using wpAny_loadPart' hl
    refine wpAny_stack_any fun st => wpAny_pure ?_
    split
    · rename_i c _ _ _ _ _
      cases (c == Value.type "enumerate")
      · wp_walk using wpAny_loadPart' hl, wpAny_pyIter_tuple hL
        exact ⟨_, rfl, h⟩
      · wp_walk using wpAny_loadPart' hl, wpAny_pyIter_tuple hL
        exact ⟨_, rfl, h⟩
    · wp_walk using wpAny_loadPart' hl, wpAny_pyIter_tuple hL
      exact ⟨_, rfl, h⟩
theorem call_enumT {prog : Program} {w : World} {A : Around} {E : Value → Shared → Prop} {s : Shared} {l : Addr} {items : Array Value} {Q : Value → Shared → Prop} (hL : s.heap.IsTuple l items)
    (h : ∀ h', IsEnum h' (s.heap.objs.size + 1) s.heap.objs.size 0 .none → h'.IsTupleIter s.heap.objs.size l 0 → h'.objs.size = s.heap.objs.size + 2 →
      (∀ b o, s.heap.get? b = some o → h'.get? b = some o) → Q (.ref (s.heap.objs.size + 1)) { s with heap := h' }) :
    wpAny (model prog w) A (call (.type "enumerate") [.ref l]) Q E s := by
  obtain ⟨⟨c, dct, dt, sl⟩, hl, hc, n, hd⟩ := hL
  replace hc : c = .type "tuple" := hc
  replace hd : dt = .seq items n := hd
  subst hc hd
  refine callType_new PySem.F.called_enumerate (by decide) (PySem.F.typeCall_enumerate_1 _) (PySem.F.newCall_enumerate_1 _) (fun obj => PySem.F.args_object_init_2 obj _) PySem.F.entry_enumerate_new
    (meets_enumT l items n dct sl) ⟨hl, ?_⟩
  have hz : (s.heap.push (itTup l 0)).objs.size = s.heap.objs.size + 1 := Heap.size_push ..
  show _ ∧ _
  rw [hz]
  have he : IsEnum ((s.heap.push (itTup l 0)).push
      { cls := .type "enumerate", data := .fields #[.none, .bool false, .ref s.heap.objs.size, rawInt 0, .none, .none] }) (s.heap.objs.size + 1) s.heap.objs.size 0 .none := by
    have := Heap.get?_push_size (s.heap.push (itTup l 0))
      (o := { cls := .type "enumerate", data := .fields #[.none, .bool false, .ref s.heap.objs.size, rawInt 0, .none, .none] }) rfl
    rw [hz] at this; exact this
  refine ⟨⟨_, he, rfl⟩, h _ he ⟨_, Heap.get?_push_of_some _ (Heap.get?_push_size _ rfl), rfl, rfl⟩ (by rw [Heap.size_push, hz]) fun b o x => Heap.get?_push_of_some _ (Heap.get?_push_of_some _ x)⟩
def IteT (K : PySem.W.Frag) (a : Addr) : It :=
  ⟨fun i H => ∃ (xs : List V) (x : V), SqT K H a xs ∧ xs[i]? = some x, fun i H v H' => ∃ T x, v = .ref T ∧ H T = none ∧ H' = upd H T (.tup [.int (i : Nat), x]) ∧ ∀ xs, SqT K H a xs → xs[i]? = some x, fun i H => ∃ xs : List V, SqT K H a xs ∧ xs.length ≤ i⟩
theorem turn_enumT {P : Program} {w : World} {K : PySem.W.Frag} {elts : List Expr} {kk : Nat} {tpos : Pos} (a e it : Addr) :
    Turn P w K (.Tuple elts kk tpos) (IteT K a) [e, it] e (fun i h => (∃ old, IsEnum h e it ((i : Nat) : Int) old) ∧ h.IsTupleIter it a i ∧ e ≠ it ∧ a ≠ it ∧ e ≠ a) where
  mem := by simp
  obj := fun i h st b hb => by
    obtain ⟨⟨old, he⟩, ⟨o, ho, hc, hd⟩, _⟩ := st
    have e' : b = e ∨ b = it := by simpa using hb
    rcases e' with z | z
    · rw [z]; exact ⟨_, he, fun v q => nomatch q⟩
    · rw [z]; exact ⟨o, ho, fun v q => by rw [hd] at q; cases q⟩
  keep := fun i h h' st k => let ⟨⟨old, he⟩, hi, hne⟩ := st; ⟨⟨old, k e (by simp) _ he⟩, hi.at fun o q => k it (by simp) o q, hne⟩
  item := by
    intro X hP hw hK hc i pins s σ H E I hf st hg
    subst hP hw hK
    obtain ⟨⟨old, he⟩, hit, hne, hai, hea⟩ := st
    obtain ⟨xs, x, hq, hx⟩ := hg
    obtain ⟨its, rv, p, hz⟩ := I.tuple hq
    obtain ⟨u, hu, ru⟩ := rv.get hx
    have hel : e < s.heap.objs.size := Heap.lt_size he
    have hil : it < s.heap.objs.size := by obtain ⟨_, q, _⟩ := hit; exact Heap.lt_size q
    have hlt : i < its.toArray.size := by
      have := (List.getElem?_eq_some_iff.mp hu).1
      simpa using this
    refine wpAny_pyNext_enum_itemD (Draws.tuple (A := X.A.in1) (I.ok.hd hc) it a hai its.toArray) he ⟨hit, show s.heap.IsTuple a its.toArray from p⟩ hlt hne (by simp [hne, hea]) fun v h' tk hP ho st' hT hsz hk => ?_
    have ev : v = u := by
      have h1 : its.toArray[i]? = some v := hP
      have h2 : its.toArray[i]? = some u := by simpa using hu
      rw [h1] at h2
      exact Option.some.inj h2
    subst ev
    obtain ⟨hit', _⟩ := st'
    refine ⟨_, rfl, wpAny_letOwnedTupleGo_enum (s := { s with heap := h', toks := tk + 1 }) ho fun h'' he' sb => ?_⟩
    have hT2 : h''.get? s.heap.objs.size = some { cls := .type "tuple", data := .seq #[.int i tk, v] } := (sb.2 _ (Nat.ne_of_gt hel)).trans hT
    have new : ObjOk X.prog X.w (upd H s.heap.objs.size (.tup [.int (i : Nat), x])) h'' s.heap.objs.size (.tup [.int (i : Nat), x]) :=
      ⟨by show 2 ≤ sizeLine; decide, [.int i tk, v], .cons ⟨_, rfl⟩ (.cons ru .nil), ⟨_, hT2, rfl, _, rfl⟩⟩
    have I1 : Inv X pins σ (upd H s.heap.objs.size (.tup [.int (i : Nat), x])) { s with heap := h'', toks := tk + 1 } :=
      I.turnedNew (ch := [e, it]) (fun b ob hb q => (sb.2 b (fun z => hb (by simp [z]))).trans (hk b ob (fun z => hb (by simp [z])) (fun z => hb (by simp [z])) q)) hf (Nat.le_refl _) new
    refine ⟨.ref s.heap.objs.size, _, I1, rfl, ⟨_, x, rfl, I.hok.fresh (Nat.le_refl _), rfl, fun ys hy => by rw [I.tuple_inj hy hq]; exact hx⟩, ⟨⟨v, ?_⟩, hit'.at fun o q => (sb.2 it (Ne.symm hne)).trans q, hne, hai, hea⟩, fun b hb => ?_⟩
    · have e1 : ((i + 1 : Nat) : Int) = (i : Int) + 1 := by omega
      rw [e1]; exact he'
    · have hb' : b < s.heap.objs.size := by
        have e' : b = e ∨ b = it := by simpa using hb
        rcases e' with z | z
        · rw [z]; exact hel
        · rw [z]; exact hil
      rw [upd_ne (Nat.ne_of_lt hb')]
      exact (hf b hb).1
  done := by
    intro X hP hw hK hc i pins s σ H E I hf st hg
    subst hP hw hK
    obtain ⟨⟨old, he⟩, hit, hne, hai, hea⟩ := st
    obtain ⟨xs, hq, hx⟩ := hg
    obtain ⟨its, rv, p, hz⟩ := I.tuple hq
    obtain ⟨f0, f1, f2, f3, f4, f5⟩ := hf it (by simp)
    have hl := rv.length
    have hp : s.heap.IsTuple a its.toArray := p
    have D : Draws X.prog X.w X.A.in1 it [it, a] i (fun _ _ => False) (fun j h => j = i ∧ h.IsTupleIter it a i ∧ h.IsTuple a its.toArray) :=
      { live := fun _ _ st => let ⟨_, ⟨o, ho, _⟩, _⟩ := st; ⟨o, ho⟩
        frame := fun _ _ _ st hk => ⟨st.1, st.2.1.at fun o e => hk it (by simp) o e, st.2.2.at fun o e => hk a (by simp) o e⟩
        item := fun j s Q E hj st _ => absurd st.1 (Nat.ne_of_lt hj)
        done := fun s Q E st hE => wpAny_nextOf_tuple_end (I.ok.hd hc) st.2.1 st.2.2 (by simp; omega) hE }
    exact wpAny_pyNext_enum_endD D he ⟨rfl, hit, hp⟩ fun h' eb => ⟨rfl, I.turned (t' := s.toks) (fun b o hb q => eb b o hb q) f0 f1 f3 f4 f5⟩
  self := fun A i s Q E st h => let ⟨⟨_, he⟩, _⟩ := st; wpAny_pyIter_enum he h
def iEnumT (K : PySem.W.Frag) (ta : TA) : TI := fun σ H R => ta σ H fun vs H1 => ∃ a xs, vs = [.ref a] ∧ SqT K H1 a xs ∧ R (IteT K a) H1
theorem pi_enumT {X : Cx} {K : PySem.W.Frag} {e : Expr} {ta : TA} {p pos tpos : Pos} {elts : List Expr} {kk : Nat} (hg : Gl X "enumerate") (hm : X.mg "enumerate" = none) (ha : PA X [e] ta) (hK : X.K = K := by rfl) (hs : starEach [e] X.env = [(false, eval e X.env)] := by rfl) :
    PI X (.Tuple elts kk tpos) (.Call (.Name "enumerate" p) [e] [] pos) (iEnumT K ta) := by
  subst hK
  refine ⟨fun pins s σ H R I h => ?_⟩
  refine Call_ (ld_blt I hg hm boot_enumerate (PyProof.Rows.callWith_type1 (thn (ha.run pos pins s σ H _ I h) fun us s1 ⟨vs, H1, I1, r1, q1⟩ => ?_) hs rfl))
  obtain ⟨a, xs, ex, hq, q⟩ := q1
  subst ex
  cases r1 with
  | cons r rr =>
    cases rr
    cases r
    obtain ⟨its, rv, p', hz⟩ := I1.tuple hq
    have hal : a < s1.heap.objs.size := by
      obtain ⟨o, e, _⟩ := p'
      exact Heap.lt_size e
    refine call_enumT (show s1.heap.IsTuple a its.toArray from p') fun h' he hit hsz hk => wpAny_pyIter_enum he ?_
    have I2 : Inv X pins σ H1 { s1 with heap := h' } := I1.kept (t' := s1.toks) hk
    refine ⟨s1.heap.objs.size + 1, [s1.heap.objs.size + 1, s1.heap.objs.size], _, _, H1, rfl, I2, turn_enumT a (s1.heap.objs.size + 1) s1.heap.objs.size, ⟨⟨.none, he⟩, hit, Nat.succ_ne_self _, Nat.ne_of_lt hal, Nat.ne_of_gt (Nat.lt_succ_of_lt hal)⟩, fun b hb => ?_, q⟩
    have e' : b = s1.heap.objs.size + 1 ∨ b = s1.heap.objs.size := by simpa using hb
    have hle : s1.heap.objs.size ≤ b := by
      rcases e' with z | z
      · rw [z]; exact Nat.le_add_right _ _
      · rw [z]; exact Nat.le_refl _
    exact I1.fpOk hle (I1.hok.fresh hle)
section
variable {K : PySem.W.Frag} {σ : L2.St} {G A : Hp} {te tl : TE} {d d1 d2 d3 : Dd} {d0 : V} {ds : List Dd} {v : V}
theorem if_enumT (h : Ef K tl σ G (.U ds)) : Itf K (iEnumT K (tCons tl tNil)) σ G (ds.zipIdx.map fun p => Dd.U [.i (p.2 : Int), p.1]) := fun G1 A e1 e2 R r =>
  h G1 A e1 e2 _ fun v G2 A2 s ⟨p, vs, ep, hp, hE⟩ => by
    subst ep
    refine ⟨p, vs, rfl, ex_t s.v hp, r _ G2 A2 s fun i G' A' e3 e4 => ⟨fun d hd => ?_, fun hi => ?_⟩⟩
    · rw [List.getElem?_map, List.getElem?_zipIdx] at hd
      cases hx : ds[i]? with
      | none => rw [hx] at hd; cases hd
      | some x =>
        rw [hx] at hd
        have ed : Dd.U [.i (((0 + i : Nat)) : Int), x] = d := Option.some.inj hd
        rw [Nat.zero_add] at ed
        obtain ⟨y, hy, z⟩ := isE_at hE hx
        refine ⟨⟨vs, y, ex_t (e3.trans e4) hp, hy⟩, fun w A'' hyl => ?_⟩
        obtain ⟨T, x', rfl, hT, rfl, hall⟩ := hyl
        have ev := (hall vs (ex_t (e3.trans e4) hp)).symm.trans hy
        rw [Option.some.inj ev, ← ed]
        refine ⟨_, .new e4 hT, T, [.int (i : Int), y], rfl, st_of upd_same, .int (i : Int), [y], rfl, rfl, y, [], rfl, (z.mono e3).mono (Ex.new (ex_out e4 hT)), rfl⟩
    · rw [List.length_map, List.length_zipIdx] at hi
      exact ⟨vs, ex_t (e3.trans e4) hp, by rw [← isE_len hE]; omega⟩
/-- i, (a, b) -/
theorem g_nest {j0 j1 j2 : Nat} {Q : L2.St → Hp → Prop} (hA : Ex G A) (h : Is K G (.U [.v d0, .U [d1, d2]]) v) (k : ∀ v1 v2, Is K G d1 v1 → Is K G d2 v2 → Q (((σ.set j0 (some d0)).set j1 (some v1)).set j2 (some v2)) A) :
    gTup K 2 (gCons (gName j0) (gCons (gTup K 2 (gCons (gName j1) (gCons (gName j2) gNil))) gNil)) v σ A Q := by
  obtain ⟨T, vs, rfl, hT, x, r, rfl, hx, y, r2, rfl, hy, hr⟩ := h
  have er : r2 = [] := hr
  subst er
  obtain rfl : x = d0 := hx
  exact ⟨T, [x, y], rfl, ex_t hA hT, rfl, x, [y], rfl, y, [], rfl, g_two hA hy fun v1 v2 h1 h2 => ⟨rfl, k v1 v2 h1 h2⟩⟩
/-- a walk over an object whose __iter__ answers iter(self.f) -/
theorem if_own {C : Addr} {fl : Str} (h : ∀ G1 A, Ex G G1 → Ex G1 A → ∀ Q : VK, (∀ x dx fs a, A x = some (.ins C dx fs) → fs.lookup fl = some (.ref a) → Is K G1 (.U ds) (.ref a) → Q (.ref x) A) → te σ A Q) : Itf K (iOwn K C fl te) σ G ds := fun G1 A e1 e2 R r =>
  h G1 A e1 e2 _ fun x dx fs a hx hf ⟨p, vs, ep, hp, hE⟩ => by
    cases ep
    refine ⟨x, dx, fs, a, vs, rfl, hx, hf, ex_t e2 hp, r _ G1 A (.refl e2) fun i G' A' e3 e4 => ⟨fun d hd => ?_, fun hi => ⟨vs, ex_t (e3.trans e4) hp, by rw [← isE_len hE]; omega⟩⟩⟩
    obtain ⟨y, hy, z⟩ := isE_at hE hd
    refine ⟨⟨vs, y, ex_t (e3.trans e4) hp, hy⟩, fun v A'' hyl => ?_⟩
    obtain ⟨rfl, hall⟩ := hyl
    have ev := (hall vs (ex_t (e3.trans e4) hp)).symm.trans hy
    rw [Option.some.inj ev]
    exact ⟨G', .refl e4, z.mono e3⟩
end
theorem ps_never {X : Cx} {st : Stmt} : PS X st (fun _ _ _ => False) := ⟨fun _ _ _ _ _ _ h => False.elim h⟩
end Mi

set_option maxHeartbeats 2000000
namespace Mi
open PySem PySem.Spec PyProof.Rows L2 Evl
section
variable {K : PySem.W.Frag} {σ : L2.St} {G A : Hp} {te tk tv : TE} {t : TT} {wi : TI} {g : TG} {d : Dd} {D : Ends} {tz : TS}
theorem s_drop (h : Ef K te σ G d) (hA : Ex G A) (k : ∀ v G' A', Step G A G' A' → Is K G' d v → tz D σ A') : tSeq (tDrop te) tz D σ A := h G A (Ex.refl G) hA _ fun v G' A' s z => k v G' A' s z
/-- a dict comprehension: what it holds is not told -/
theorem ef_dc {α : Type} {its : List α} {inj : α → Dd} {vs : List Nat} (h : Itf K wi σ G (its.map inj)) (hz : its.length ≤ 50000)
    (hs : ∀ (i : Nat) x v G' A', Ex G G' → Ex G' A' → its[i]? = some x → Is K G' (inj x) v → ∃ σ2, (∀ Q : L2.St → Hp → Prop, Q σ2 A' → g v (wipe σ vs) A' Q) ∧ wipe σ2 vs = wipe σ vs ∧ ∃ (k : Key) (z : V), Er K tk σ2 A' (.v (kV k)) ∧ Er K tv σ2 A' (.v z)) :
    Ef K (tDc wi g tYes tk tv vs) σ G .D := fun G0 A0 e0 ea0 Q q =>
  h G0 A0 e0 ea0 _ fun J G1 A1 s1 hw => fun Dl hD => by
    have gD := ex_out s1.v hD
    refine ⟨fun i m A' => m = its.length - i ∧ i ≤ its.length ∧ ∃ G', Step G1 A1 G' A' ∧ G' Dl = none ∧ ∃ kvs, A' Dl = some (.dK kvs) ∧ kvs.length ≤ i, ⟨_, rfl, Nat.zero_le _, G1, .on s1.v (Ex.new hD), gD, [], upd_same, Nat.le_refl _⟩, ?_⟩
    rintro i m A' ⟨rfl, hi, G', st, hg, kvs, hu, hl⟩
    by_cases hlt : i < its.length
    · have hx : its[i]? = some its[i] := List.getElem?_eq_getElem hlt
      have hd' : (its.map inj)[i]? = some (inj its[i]) := by rw [List.getElem?_map, hx]; rfl
      obtain ⟨go, yl⟩ := (hw i G' A' st.g st.v).1 _ hd'
      refine .inr ⟨go, fun A3 => ∃ G3, Step G1 A1 G3 A3 ∧ G3 Dl = none ∧ ∃ kvs, A3 Dl = some (.dK kvs) ∧ kvs.length ≤ i + 1, fun A3 p3 => ⟨its.length - (i + 1), by omega, rfl, hlt, p3⟩, fun v A'' y => ?_⟩
      obtain ⟨G2, s2, z⟩ := yl v A'' y
      have uN : A' Dl ≠ none := by rw [hu]; simp
      have g2 := s2.f Dl uN hg
      have u2 := s2.a Dl _ hu
      obtain ⟨σ2, hgt, hwp, k, zv, htk, htv⟩ := hs i _ v G2 A'' ((e0.trans s1.g).trans (st.g.trans s2.g)) s2.v hx z
      refine hgt _ ⟨hwp, ?_⟩
      unfold tYes
      dsimp only
      rw [if_pos rfl]
      refine htk A'' (Ex.refl _) _ fun w A3 e3 zw => ?_
      refine htv A3 e3 _ fun w2 A4 e4 zw2 => ?_
      have s4 := (st.trans s2).trans (Step.on s2.v (e3.trans e4))
      refine ⟨kvs, k, zw, e4 Dl _ (e3 Dl _ u2), sz_lt (by omega), G2, s4.grow hD g2, g2, _, upd_same, ?_⟩
      have := length_putK kvs k w2
      omega
    · have e : i = its.length := by omega
      subst e
      refine .inl ⟨(hw _ G' A' st.g st.v).2 (by rw [List.length_map]), q _ (upd G' Dl (.dK kvs)) A' (s1.trans (st.seal hD hg hu)) ⟨Dl, kvs, rfl, upd_same⟩⟩
end
/-! ### a stock -/
abbrev prD (sts : List (List Nat × List Nat)) : List Dd := sts.map fun p => Dd.U [.s (S p.1), .s (S p.2)]
def stFlds (n : Int) (ps dd : Addr) : List (Str × V) := putF "_stamp_of" (.ref dd) (putF "stamps" (.ref ps) (putF "size" (.int n) []))
theorem ne_ss : ¬ (("size" : Str) = "stamps") := by decide +kernel
theorem ne_so : ¬ (("size" : Str) = "_stamp_of") := by decide +kernel
theorem ne_to : ¬ (("stamps" : Str) = "_stamp_of") := by decide +kernel
theorem stFlds_size (n : Int) (ps dd : Addr) : (stFlds n ps dd).lookup ("size" : Str) = some (.int n) := by
  unfold stFlds
  rw [lookup_putF, if_neg ne_so, lookup_putF, if_neg ne_ss, lookup_putF, if_pos rfl]
theorem stFlds_stamps (n : Int) (ps dd : Addr) : (stFlds n ps dd).lookup ("stamps" : Str) = some (.ref ps) := by
  unfold stFlds
  rw [lookup_putF, if_neg ne_to, lookup_putF, if_pos rfl]
def stockD (K : PySem.W.Frag) (C : Addr) (n : Int) (sts : List (List Nat × List Nat)) : Dd := .P ⟨fun H y => ∃ x dx ps dd kvs, y = .ref x ∧ H x = some (.ins C dx (stFlds n ps dd)) ∧ Is K H (.U (prD sts)) (.ref ps) ∧ H dd = some (.dK kvs), by
  rintro H H' y e ⟨x, dx, ps, dd, kvs, rfl, h1, h2, h3⟩
  exact ⟨x, dx, ps, dd, kvs, rfl, e x _ h1, h2.mono e, e dd _ h3⟩⟩
section
variable {K : PySem.W.Frag} {σ : L2.St} {G A : Hp} {te : TE} {C : Addr} {n : Int} {sts : List (List Nat × List Nat)} {x : V} {i : Nat}
/-- stock.stamps -/
theorem ef_stamps (cl : Cls K C) (na : NoAttr K C "stamps") (h : Ef K te σ G (stockD K C n sts)) : Ef K (tFld K te "stamps") σ G (.U (prD sts)) := fun G1 A e1 e2 Q q =>
  h G1 A e1 e2 _ fun v G2 A2 s ⟨x, dx, ps, dd, kvs, ev, h1, h2, h3⟩ => by
    subst ev
    exact ⟨x, C, dx, _, .ref ps, rfl, s.v x _ h1, cl, na, stFlds_stamps n ps dd, q _ G2 A2 s h2⟩
/-- for .. in stock, the stock in slot i -/
theorem if_stock (hx : σ[i]? = some (some x)) (h : Is K G (stockD K C n sts) x) : Itf K (iOwn K C "stamps" (tVar i)) σ G (prD sts) := if_own fun G1 A e1 e2 Q q => by
  obtain ⟨x0, dx, ps, dd, kvs, rfl, h1, h2, h3⟩ := h
  exact ⟨.ref x0, hx, q x0 dx _ ps (e2 x0 _ (e1 x0 _ h1)) (stFlds_stamps n ps dd) (h2.mono e1)⟩
end
end Mi

set_option maxHeartbeats 2000000
namespace Mi
open PySem PySem.Spec PyProof.Rows L2 Evl
/-! ### lists and tuples of texts compared -/
section
variable {K : PySem.W.Frag} {H : Hp}
theorem dpAll_strs : ∀ ys : List (List Nat), DpAll K H (vsl ys) (ys.map fun l => PyData.str (S l))
  | [] => .nil
  | n :: r => .cons (.str (S n)) (dpAll_strs r)
theorem eqv_strs : ∀ xs ys : List (List Nat), PyData.eqvAll (xs.map fun l => PyData.str (S l)) (ys.map fun l => PyData.str (S l)) = decide (xs = ys)
  | [], [] => by simp [PyData.eqvAll]
  | [], _ :: _ => by simp [PyData.eqvAll]
  | _ :: _, [] => by simp [PyData.eqvAll]
  | a :: r, b :: t => by
    simp only [List.map_cons, PyData.eqvAll, PyData.eqv, eqv_strs r t]
    by_cases h : a = b
    · by_cases h' : r = t <;> simp [h, h']
    · have h2 : ¬ (S a = S b) := fun e => h (S_inj e)
      simp [h, h2]
def okT (l : List Nat) : Prop := PyData.strOk (S l) = true
theorem canLay_strs : ∀ ys : List (List Nat), (∀ l ∈ ys, okT l) → PyData.canLayAll0 (ys.map fun l => PyData.str (S l)) = true ∧ PyData.depthAll (ys.map fun l => PyData.str (S l)) = 0
  | [], _ => ⟨by simp [PyData.canLayAll0], by simp [PyData.depthAll]⟩
  | a :: r, h => by
    obtain ⟨h1, h2⟩ := canLay_strs r fun l hl => h l (List.mem_cons_of_mem _ hl)
    have h0 : PyData.strOk (S a) = true := h a (List.mem_cons_self ..)
    refine ⟨?_, ?_⟩
    · simp only [List.map_cons, PyData.canLayAll0, PyData.canLay0, h0, h1, Bool.and_self]
    · simp only [List.map_cons, PyData.depthAll, PyData.depth, h2]
      rfl
theorem shaped_strs {ys : List (List Nat)} (h : ∀ l ∈ ys, okT l) : SeqAt.shaped (.list (ys.map fun l => PyData.str (S l))) = true ∧ SeqAt.shaped (.tuple (ys.map fun l => PyData.str (S l))) = true := by
  obtain ⟨h1, h2⟩ := canLay_strs ys h
  simp [SeqAt.shaped, PyData.canLay0, PyData.depth, h1, h2]
theorem ro_eqLs {xs ys : List (List Nat)} (hx : ∀ l ∈ xs, okT l) (hy : ∀ l ∈ ys, okT l) : Ro K (rEqD K) (.l (vsl xs)) (.l (vsl ys)) (.v (.bl (decide (xs = ys)))) := by
  rintro _ _ H1 ⟨p, rfl, hp⟩ ⟨p', rfl, hp'⟩ Q q
  refine ⟨_, _, .lst hp (dpAll_strs xs), .lst hp' (dpAll_strs ys), (shaped_strs hx).1, (shaped_strs hy).1, q _ H1 (Ex.refl H1) ?_⟩
  show V.bl (PyData.eqvAll _ _) = _
  rw [eqv_strs]
theorem ro_neLs {xs ys : List (List Nat)} (hx : ∀ l ∈ xs, okT l) (hy : ∀ l ∈ ys, okT l) : Ro K (rNeD K) (.l (vsl xs)) (.l (vsl ys)) (.v (.bl (!decide (xs = ys)))) := by
  rintro _ _ H1 ⟨p, rfl, hp⟩ ⟨p', rfl, hp'⟩ Q q
  refine ⟨_, _, .lst hp (dpAll_strs xs), .lst hp' (dpAll_strs ys), (shaped_strs hx).1, (shaped_strs hy).1, q _ H1 (Ex.refl H1) ?_⟩
  show V.bl (!PyData.eqvAll _ _) = _
  rw [eqv_strs]
theorem ro_eqUs {xs ys : List (List Nat)} (hx : ∀ l ∈ xs, okT l) (hy : ∀ l ∈ ys, okT l) : Ro K (rEqD K) (.u (vsl xs)) (.u (vsl ys)) (.v (.bl (decide (xs = ys)))) := by
  rintro _ _ H1 ⟨p, rfl, hp⟩ ⟨p', rfl, hp'⟩ Q q
  refine ⟨_, _, .tup hp (dpAll_strs xs), .tup hp' (dpAll_strs ys), (shaped_strs hx).2, (shaped_strs hy).2, q _ H1 (Ex.refl H1) ?_⟩
  show V.bl (PyData.eqvAll _ _) = _
  rw [eqv_strs]
/-! ### pairs of texts -/
def prP (p : List Nat × List Nat) : PyData := .tuple [.str (S p.1), .str (S p.2)]
theorem dpAll_prs : ∀ {sts : List (List Nat × List Nat)} {vs : List V}, IsE K H (prD sts) vs → DpAll K H vs (sts.map prP)
  | [], vs, h => by rw [show vs = [] from h]; exact .nil
  | p :: r, vs, h => by
    obtain ⟨x, rs, rfl, ⟨T, us, rfl, hT, y1, r1, rfl, hy1, y2, r2, rfl, hy2, hr2⟩, b⟩ := h
    have er : r2 = [] := hr2
    subst er
    obtain rfl : y1 = V.str (S p.1) := hy1
    obtain rfl : y2 = V.str (S p.2) := hy2
    exact .cons (.tup hT (.cons (.str _) (.cons (.str _) .nil))) (dpAll_prs b)
theorem eqv_prs_refl : ∀ sts : List (List Nat × List Nat), PyData.eqvAll (sts.map prP) (sts.map prP) = true
  | [] => by simp [PyData.eqvAll]
  | p :: r => by
    simp only [List.map_cons, PyData.eqvAll, PyData.eqv, prP, eqv_prs_refl r]
    simp [PyData.eqvAll, PyData.eqv]
theorem canLay_prs : ∀ sts : List (List Nat × List Nat), (∀ p ∈ sts, okT p.1 ∧ okT p.2) → PyData.canLayAll0 (sts.map prP) = true ∧ PyData.depthAll (sts.map prP) ≤ 1
  | [], _ => ⟨by simp [PyData.canLayAll0], by simp [PyData.depthAll]⟩
  | p :: r, h => by
    obtain ⟨h1, h2⟩ := canLay_prs r fun l hl => h l (List.mem_cons_of_mem _ hl)
    obtain ⟨a1, a2⟩ := h p (List.mem_cons_self ..)
    have b1 : PyData.strOk (S p.1) = true := a1
    have b2 : PyData.strOk (S p.2) = true := a2
    refine ⟨?_, ?_⟩
    · simp only [List.map_cons, PyData.canLayAll0, PyData.canLay0, prP, b1, b2, h1, Bool.and_self]
    · simp only [List.map_cons, PyData.depthAll, PyData.depth, prP]
      omega
theorem ro_eqPr {sts : List (List Nat × List Nat)} (h : ∀ p ∈ sts, okT p.1 ∧ okT p.2) : Ro K (rEqD K) (.U (prD sts)) (.U (prD sts)) (.b true) := by
  rintro _ _ H1 ⟨p, vs, rfl, hp, hE⟩ ⟨p', vs', rfl, hp', hE'⟩ Q q
  obtain ⟨h1, h2⟩ := canLay_prs sts h
  have sh : SeqAt.shaped (.tuple (sts.map prP)) = true := by
    simp [SeqAt.shaped, PyData.canLay0, PyData.depth, h1]
    omega
  refine ⟨_, _, .tup hp (dpAll_prs hE), .tup hp' (dpAll_prs hE'), sh, sh, q _ H1 (Ex.refl H1) ?_⟩
  show V.bl (PyData.eqvAll _ _) = _
  rw [eqv_prs_refl]
end
section
variable {K : PySem.W.Frag} {σ : L2.St} {G : Hp} {ta tb : TE} {tr : TA} {d1 d2 : Dd} {C : Addr} {n : Nat} {sts : List (List Nat × List Nat)}
theorem ef_call2 {T : Type} {pre : T → Prop} {args : T → List Dd} {ret : T → Dd} (a : T) (h1 : Ef K ta σ G d1) (h2 : Ef K tb σ G d2) (hd : [d2, d1] = args a) (hp : pre a) : Ef K (tCall2 (spF K pre args ret) ta tb) σ G (ret a) := fun G1 A e1 e2 Q q =>
  h1 G1 A e1 e2 _ fun v1 G2 A2 s z1 => h2 G2 A2 (e1.trans s.g) s.v _ fun v2 G3 A3 s3 z2 => ⟨v1, v2, rfl, a, hp, G3, s3.v, hd ▸ .cons z2 (.cons (z1.mono s3.g) .nil), fun v G4 A4 s4 z => q v G4 A4 ((s.trans s3).trans s4) z⟩
end
end Mi
namespace Mi
open PySem PySem.Spec PyProof.Rows L2 Evl
theorem okT_of {l : List Nat} (h : ∀ c ∈ l, c < 1114112) : okT l := by
  unfold okT PyData.strOk
  rw [← Array.all_toList]
  show l.all _ = true
  rw [List.all_eq_true]
  exact fun c hc => decide_eq_true (h c hc)
section
variable {K : PySem.W.Frag} {σ : L2.St} {H H' : Hp} {te ta tb : TE} {tr : TA} {d1 d2 : Dd} {ds : List Dd} {D : Ends} {tz : TS} {C : Addr} {n : Nat} {sts : List (List Nat × List Nat)}
theorem er_callF {T : Type} {pre : T → Prop} {args : T → List Dd} {ret : T → Dd} {E : XK} (a : T) (h : Era K tr σ H ds) (hd : ds = args a) (hp : pre a) : Er K (tCall (spF K pre args ret) [] E tr) σ H (ret a) := fun H1 e Q q =>
  h H1 e _ fun vs H2 e2 z => by
    rw [List.append_nil]
    exact ⟨a, hp, H2, Ex.refl _, hd ▸ z, fun v G' A' s z3 => q v A' (e2.trans s.a) (z3.mono s.v)⟩
theorem er_call2F {T : Type} {pre : T → Prop} {args : T → List Dd} {ret : T → Dd} (a : T) (h1 : Er K ta σ H d1) (h2 : Er K tb σ H d2) (hd : [d2, d1] = args a) (hp : pre a) : Er K (tCall2 (spF K pre args ret) ta tb) σ H (ret a) := fun H1 e Q q =>
  h1 H1 e _ fun v1 H2 e2 z1 => h2 H2 (e.trans e2) _ fun v2 H3 e3 z2 => ⟨v1, v2, rfl, a, hp, H3, Ex.refl _, hd ▸ .cons z2 (.cons (z1.mono e3) .nil), fun v G' A' s z => q v A' ((e2.trans e3).trans s.a) (z.mono s.v)⟩
/-- a new list that is written out and will grow -/
theorem a_newL {i : Nat} {vs : List V} (h : Era K tr σ H (vs.map Dd.v)) (hl : vs.length ≤ 100000) (k : ∀ p H1, H p = none → Ex H H1 → H1 p = some (.lst vs) → tz D (σ.set i (some (.ref p))) H1) : tSeq (tAsg (tLst tr) (gName i)) tz D σ H :=
  h H (Ex.refl H) _ fun ws H2 e2 z => by
    have ew := flat_all z
    subst ew
    exact ⟨sz_of hl, fun p hp => k p _ (fresh_back e2 hp) (e2.trans (Ex.new hp)) upd_same⟩
theorem uS {xs : List (List Nat)} {v : V} (h : Is K H (.U (xs.map fun l => Dd.s (S l))) v) : Is K H (.u (vsl xs)) v := by
  refine Is.U2u (xs := vsl xs) ?_
  rw [vsl, vss, List.map_map, List.map_map]
  exact h
theorem nS {xs : List (List Nat)} {v : V} (h : Is K H (.N (xs.map fun l => Dd.s (S l))) v) : Is K H (.n (vsl xs)) v := by
  refine Is.N2n (xs := vsl xs) ?_
  rw [vsl, vss, List.map_map, List.map_map]
  exact h
end
/-- some texts of one length -/
def layersD (K : PySem.W.Frag) (n : Nat) : Dd := .P ⟨fun H y => ∃ L : List (List Nat), (∀ l ∈ L, l.length = n) ∧ 1 ≤ L.length ∧ L.length ≤ 50 ∧ Is K H (.n (vsl L)) y, by
  rintro H H' y e ⟨L, h1, h2, h3, h4⟩
  exact ⟨L, h1, h2, h3, h4.mono e⟩⟩
end Mi

set_option maxHeartbeats 2000000
namespace Mi
open PySem PySem.Spec PyProof.Rows L2 Evl
/-! ### things of any kind: texts, nested lists and tuples, dicts, an object -/
section
variable {K : PySem.W.Frag} {H H' : Hp}
mutual
theorem dp_mono (e : Ex H H') : ∀ {x : V} {d : PyData}, Dp K H x d → Dp K H' x d
  | _, _, .non => .non
  | _, _, .bl b => .bl b
  | _, _, .int i => .int i
  | _, _, .str x => .str x
  | _, _, .lst h hs => .lst (ex_l e h) (dpAll_mono e hs)
  | _, _, .tup h hs => .tup (ex_t e h) (dpAll_mono e hs)
theorem dpAll_mono (e : Ex H H') : ∀ {xs : List V} {ds : List PyData}, DpAll K H xs ds → DpAll K H' xs ds
  | _, _, .nil => .nil
  | _, _, .cons a b => .cons (dp_mono e a) (dpAll_mono e b)
end
def datV : V → PyData
  | .bl b => .bool b
  | .int i => .int i
  | .str x => .str x
  | _ => .none
def goodV : V → Bool
  | .non => true
  | .bl _ => true
  | .int _ => true
  | .str _ => true
  | _ => false
mutual
def datD : Dd → PyData
  | .v x => datV x
  | .N ds => .list (datL ds)
  | .U ds => .tuple (datL ds)
  | _ => .none
def datL : List Dd → List PyData
  | [] => []
  | d :: r => datD d :: datL r
end
mutual
def goodD : Dd → Bool
  | .v x => goodV x
  | .N ds => goodL ds
  | .U ds => goodL ds
  | _ => false
def goodL : List Dd → Bool
  | [] => true
  | d :: r => goodD d && goodL r
end
theorem dp_v : ∀ {x : V}, goodV x = true → Dp K H x (datV x)
  | .non, _ => .non
  | .bl b, _ => .bl b
  | .int i, _ => .int i
  | .str z, _ => .str z
  | .byt _, h => by cases h
  | .flt _, h => by cases h
  | .ref _, h => by cases h
  | .ty _, h => by cases h
mutual
theorem dp_of : ∀ {d : Dd} {x : V}, goodD d = true → Is K H d x → Dp K H x (datD d)
  | .v y, x, g, h => by
    obtain rfl : x = y := h
    exact dp_v g
  | .N ds, x, g, h => by
    obtain ⟨p, vs, rfl, hp, hE⟩ := h
    exact .lst (sq_of hp) (dpAll_of g hE)
  | .U ds, x, g, h => by
    obtain ⟨p, vs, rfl, hp, hE⟩ := h
    exact .tup hp (dpAll_of g hE)
  | .D, _, g, _ => by cases g
  | .P _, _, g, _ => by cases g
  | .l _, _, g, _ => by cases g
  | .n _, _, g, _ => by cases g
  | .u _, _, g, _ => by cases g
  | .L _, _, g, _ => by cases g
theorem dpAll_of : ∀ {ds : List Dd} {xs : List V}, goodL ds = true → IsE K H ds xs → DpAll K H xs (datL ds)
  | [], xs, _, h => by
    rw [show xs = [] from h]
    exact .nil
  | d :: r, xs, g, h => by
    obtain ⟨x, rs, rfl, a, b⟩ := h
    have g2 : (goodD d && goodL r) = true := g
    rw [Bool.and_eq_true] at g2
    exact .cons (dp_of g2.1 a) (dpAll_of g2.2 b)
end
inductive Th where
  | t (l : List Nat)
  | c (d : Dd)
  | k (ks : List (Key × V))
  | o
def ThOk : Th → Prop
  | .t l => l.length ≤ 1000
  | .c d => goodD d = true ∧ (tyN d ≠ "?" ∧ tyN d ≠ "str") ∧ PyData.canLay0 (datD d) = true ∧ PyData.depth (datD d) ≤ 8
  | .k ks => ∀ p ∈ ks, valV ks p.1 = some p.2 ∧ flatB p.2 = true
  | .o => True
def thD (C : Addr) : Th → Dd
  | .t l => .s (S l)
  | .c d => d
  | .k ks => .P ⟨fun H x => ∃ a, x = .ref a ∧ H a = some (.dK ks), by rintro H H' x e ⟨a, rfl, h⟩; exact ⟨a, rfl, e a _ h⟩⟩
  | .o => .P ⟨fun H x => ∃ a dx fs, x = .ref a ∧ H a = some (.ins C dx fs), by rintro H H' x e ⟨a, dx, fs, rfl, h⟩; exact ⟨a, dx, fs, rfl, e a _ h⟩⟩
/-- what isinstance reads of the class C -/
structure ObTy (K : PySem.W.Frag) (C : Addr) : Prop where
  cl : Cls K C
  fc : PySem.W.findIn K (.ref C) "__class__" = some (some (.builtin "object.__class__"))
  sp : PySem.W.specialIn K (.builtin "object.__class__") "__get__" = some (some (.builtin "getset_descriptor.__get__"))
  tk : PySem.W.takesIn K (.builtin "object.__class__") = some true
  mr : PySem.W.mroIn K C (.type "object") = some true
  no : PySem.W.kitOne K (.ref C) (.type "str") = some false
def isT : Th → Bool
  | .t _ => true
  | _ => false
def txT : Th → List Nat
  | .t l => l
  | _ => []
theorem rc_isiTh {C : Addr} (O : ObTy K C) : ∀ {th : Th}, ThOk th → Rc K (rIsi K) [thD C th, .v (.ty "str")] (.b (isT th))
  | .t l, _ => rc_isi_str (b := true) (by decide +kernel)
  | .c d, h => rc_isiD h.2.1.1 (by
    have h2 := h.2.1.2
    show kitB (tyN d) "str" = some false
    rcases tyN_cases h.2.1.1 with e | e | e | e | e | e | e
    · rw [e]; decide +kernel
    · rw [e]; decide +kernel
    · rw [e]; decide +kernel
    · exact absurd e h2
    · rw [e]; decide +kernel
    · rw [e]; decide +kernel
    · rw [e]; decide +kernel)
  | .k ks, _ => rc_isi (.type "dict") (fun H1 v z => by obtain ⟨a, rfl, h⟩ := z; exact .base (.dK h)) (b := false) (kit_ty (by decide +kernel))
  | .o, _ => rc_isi (.ref C) (fun H1 v z => by obtain ⟨a, dx, fs, rfl, h⟩ := z; exact .base (.ins h O.cl O.fc O.sp O.tk O.mr)) O.no
theorem is_text {C : Addr} : ∀ {th : Th} {x : V}, isT th = true → Is K H (thD C th) x → x = .str (S (txT th))
  | .t l, _, _, h => h
  | .c _, _, h, _ => by cases h
  | .k _, _, h, _ => by cases h
  | .o, _, h, _ => by cases h

/-! ### == of lists of such things -/
def EqI (K : PySem.W.Frag) (H : Hp) (x y : V) : Prop := (x = y ∧ flatB x = true) ∨ (∃ d, Dp K H x d ∧ Dp K H y d ∧ PyData.canLay0 d = true ∧ PyData.depth d ≤ 8) ∨ EqV K H 3 x y
def rEqZ (K : PySem.W.Frag) : R2 := fun x y H Q => ∃ a b xs ys, x = .ref a ∧ y = .ref b ∧ SqL K H a xs ∧ SqL K H b ys ∧ Paired (EqI K H) xs ys ∧ Q (.bl true) H
theorem op_eqZ {X : Cx} (hu : X.A.units + 64 < cLine) : OpR X (compareOp .Eq) (rEqZ X.K) := by
  rintro pins s σ H x y v u Q I rx ry ⟨a, b, xs, ys, rfl, rfl, ha, hb, hp, q⟩
  have u1 : X.A.in1.units = X.A.units + 1 := rfl
  refine L2.eqR_run I (F := EqI X.K H) (by omega) ?_ (.inl ⟨a, b, xs, ys, rfl, rfl, ha, hb, hp⟩) rx ry X.xe (EP X pins σ Q) ⟨.bl true, H, I, rfl, q⟩
  rintro x y v u (⟨rfl, f⟩ | ⟨d, h1, h2, c, dp⟩ | h) r1 r2
  · exact (eqAt_same r1 r2 f).eqP
  · obtain ⟨as, q1⟩ := Dp.reads I d x v h1 r1
    obtain ⟨bs, q2⟩ := Dp.reads I d y u h2 r2
    have e := SeqAt.eqAt_reads d d X.A.in1 s v u as bs q1 q2 c c (by omega)
    rw [SeqAt.eqv_refl d c] at e
    exact e.eqP
  · exact L2.eqV_run I 3 X.A.in1 (by omega) x y v u h r1 r2
theorem op_eqZ_k {X : Cx} {K : PySem.W.Frag} (hu : X.A.units + 64 < cLine) (h : X.K = K := by rfl) : OpR X (compareOp .Eq) (rEqZ K) := h ▸ op_eqZ hu
theorem eqI_th {C : Addr} : ∀ {th : Th} {x y : V}, ThOk th → th ≠ .o → Is K H (thD C th) x → Is K H (thD C th) y → EqI K H x y
  | .t l, x, y, _, _, h1, h2 => by
    obtain rfl : x = V.str (S l) := h1
    obtain rfl : y = V.str (S l) := h2
    exact .inl ⟨rfl, rfl⟩
  | .c d, x, y, h, _, h1, h2 => .inr (.inl ⟨datD d, dp_of h.1 h1, dp_of h.1 h2, h.2.2.1, h.2.2.2⟩)
  | .k ks, x, y, h, _, ⟨a, ea, h1⟩, ⟨b, eb, h2⟩ => by
    subst ea
    subst eb
    refine .inr (.inr ?_)
    rw [L2.EqV.eq_2]
    refine .inr (.inr (.inr ⟨a, b, ks, ks, rfl, rfl, h1, h2, rfl, fun p hp => ⟨p.2, (h p hp).1, ?_⟩⟩))
    rw [L2.EqV.eq_2]
    exact .inl ⟨rfl, (h p hp).2⟩
  | .o, _, _, _, n, _, _ => absurd rfl n
theorem paired_th {C : Addr} : ∀ {ths : List Th} {xs ys : List V}, (∀ th ∈ ths, ThOk th ∧ th ≠ .o) → IsE K H (ths.map (thD C)) xs → IsE K H (ths.map (thD C)) ys → Paired (EqI K H) xs ys
  | [], xs, ys, _, h1, h2 => by
    rw [show xs = [] from h1, show ys = [] from h2]
    exact .nil
  | th :: r, xs, ys, h, h1, h2 => by
    obtain ⟨x, xr, rfl, a1, b1⟩ := h1
    obtain ⟨y, yr, rfl, a2, b2⟩ := h2
    have q := h th (List.mem_cons_self ..)
    exact .cons (eqI_th q.1 q.2 a1 a2) (paired_th (fun t ht => h t (List.mem_cons_of_mem _ ht)) b1 b2)
theorem ro_eqZ {C : Addr} {ths : List Th} (h : ∀ th ∈ ths, ThOk th ∧ th ≠ .o) : Ro K (rEqZ K) (.L (ths.map (thD C))) (.N (ths.map (thD C))) (.b true) := by
  rintro _ _ H1 ⟨p, vs, rfl, hp, hE⟩ ⟨p', vs', rfl, hp', hE'⟩ Q q
  exact ⟨p, p', vs, vs', rfl, rfl, hp, sq_of hp', paired_th h hE hE', q _ H1 (Ex.refl H1) rfl⟩
end
section
variable {K : PySem.W.Frag} {σ : L2.St} {H G A : Hp} {te ta tb tc ti to : TE} {tr : TA} {d d1 d2 : Dd} {ds : List Dd} {x y : V} {C : Addr}
/-! ### making them -/
theorem ef_d0 : Ef K tDNewK σ G (thD C (.k [])) := fun G1 A e1 e2 Q q p hp => q _ (upd G1 p (.dK [])) _ (Step.new e2 hp) ⟨p, rfl, upd_same⟩
theorem step_new2 {G A A2 : Hp} {p : Addr} {o o' : HO} (e : Ex G A) (hp : A p = none) (e2 : Ex (upd A p o) A2) : Step G A (upd G p o') (upd A2 p o') := by
  have hg := ex_out e hp
  have eA : Ex A A2 := (Ex.new hp).trans e2
  refine ⟨Ex.new hg, ex_both (e.trans eA) hg, eA.mut hp, fun b h h2 => ?_⟩
  have hb : b ≠ p := fun z => h (by rw [z]; exact hp)
  rw [upd_ne hb]
  exact h2
theorem ef_d1 {a : Str} (h1 : Er K ta σ G (.s a)) (h2 : Er K tb σ G (.v y)) : Ef K (tDisp [(ta, tb)]) σ G (thD C (.k [(.inr a, y)])) := fun G1 A e1 e2 Q q p hp =>
  h1 _ ((e1.trans e2).trans (Ex.new hp)) _ fun v2 H2 e3 z2 => h2 _ (((e1.trans e2).trans (Ex.new hp)).trans e3) _ fun v3 H3 e4 z3 => by
    obtain rfl : v2 = V.str a := z2
    obtain rfl : v3 = y := z3
    exact ⟨(e3.trans e4) p _ upd_same, [(.inr a, v3)], rfl, by simp, q _ _ _ (step_new2 e2 hp (e3.trans e4)) ⟨p, rfl, upd_same⟩⟩
theorem mergeK2 {a b : Str} {x y : V} (h : a ≠ b) : mergeK [] [(.inr a, x), (.inr b, y)] = [(.inr a, x), (.inr b, y)] := by
  have e : ¬ ((Sum.inr a : Key) = .inr b) := fun z => h (Sum.inr.inj z)
  simp [mergeK, putK, e]
theorem ef_d2 {a b : Str} (h : a ≠ b) (h1 : Er K ta σ G (.s a)) (h2 : Er K tb σ G (.v x)) (h3 : Er K tc σ G (.s b)) (h4 : Er K to σ G (.v y)) : Ef K (tDisp [(ta, tb), (tc, to)]) σ G (thD C (.k [(.inr a, x), (.inr b, y)])) := fun G1 A e1 e2 Q q p hp =>
  h1 _ ((e1.trans e2).trans (Ex.new hp)) _ fun v2 H2 e3 z2 => h2 _ (((e1.trans e2).trans (Ex.new hp)).trans e3) _ fun v3 H3 e4 z3 => h3 _ ((((e1.trans e2).trans (Ex.new hp)).trans e3).trans e4) _ fun v4 H4 e5 z4 => h4 _ (((((e1.trans e2).trans (Ex.new hp)).trans e3).trans e4).trans e5) _ fun v5 H5 e6 z5 => by
    obtain rfl : v2 = V.str a := z2
    obtain rfl : v3 = x := z3
    obtain rfl : v4 = V.str b := z4
    obtain rfl : v5 = y := z5
    have eE := ((e3.trans e4).trans e5).trans e6
    exact ⟨eE p _ upd_same, [(.inr a, v3), (.inr b, v5)], rfl, by simp, q _ _ _ (step_new2 e2 hp eE) ⟨p, rfl, by rw [mergeK2 h]; exact upd_same⟩⟩
/-- [.., .., ..][i] -/
theorem ef_at {i : Int} (ths : List Th) (h : Efa K tr σ G (ths.map (thD C))) (hi : Er K ti σ G (.i i)) (h0 : 0 ≤ i) (h1 : i < ths.length) (hz : ths.length ≤ 1000) : Ef K (tOp (rIxL K) (tLst tr) ti) σ G (thD C (ths.getD i.toNat .o)) := by
  have e : ((i.toNat : Nat) : Int) = i := Int.toNat_of_nonneg h0
  have hlt : i.toNat < ths.length := by omega
  refine ef_op (ef_N h (by rw [List.length_map]; omega)) (ef_flat hi) ?_
  rw [← e]
  refine rf_ixN ?_
  rw [List.getElem?_map, Int.toNat_natCast, List.getD_eq_getElem?_getD, List.getElem?_eq_getElem hlt]
  rfl
theorem mem_getD {α : Type} {l : List α} {i : Nat} {z : α} (h : i < l.length) : l.getD i z ∈ l := by
  rw [List.getD_eq_getElem?_getD, List.getElem?_eq_getElem h]
  exact List.getElem_mem h
end
end Mi

set_option maxHeartbeats 4000000
namespace Mi
open PySem PySem.Spec PyProof.Rows L2 Evl
def topS (i : Nat) : Stmt := PySem.Challenge.pw_stampsheets_k00_layers_judged.main.body.getD i (.Pass ⟨0, 0, 0, 0⟩)
def letters : List Nat := [97, 98, 99, 100, 101, 102, 103, 104, 105, 106, 107, 108, 109, 110, 111, 112, 113, 114, 115, 116, 117, 118, 119, 120, 121, 122]
def alls : List Nat := 46 :: letters
def signs : List Nat := 45 :: alls
def digits : List Nat := [48, 49, 50, 51, 52, 53, 54, 55, 56, 57]
/-- what the top leaves of the names that the defs read -/
structure Txt (K : PySem.W.Frag) (mg : Str → Option Value) : Prop where
  g_DASH : ∃ t, mg "DASH" = some (.str (S [45]) t)
  g_LETTERS : ∃ t, mg "LETTERS" = some (.str (S letters) t)
  g_MARKS : ∃ t, mg "MARKS" = some (.str (S alls) t)
  g_LONGEST : ∃ t, mg "LONGEST" = some (.int 30 t)
  g_DIGITS : ∃ t, mg "DIGITS" = some (.str (S digits) t)
  g_LONGEST_NAME : ∃ t, mg "LONGEST_NAME" = some (.int 8 t)
  b_len : mg "len" = none
  b_int : mg "int" = none
  b_bool : mg "bool" = none
  b_str : mg "str" = none
  b_tuple : mg "tuple" = none
  b_list : mg "list" = none
  b_zip : mg "zip" = none
  b_enumerate : mg "enumerate" = none
  b_range : mg "range" = none
  b_max : mg "max" = none
  b_min : mg "min" = none
  b_sum : mg "sum" = none
  b_all : mg "all" = none
  b_isinstance : mg "isinstance" = none
  b_iter : mg "iter" = none
local macro_rules | `(tactic| walk_at "side") => `(tactic| (first | assumption | omega | exact rfl | decide | (simp only [List.length_cons, List.length_nil, List.length_map, List.length_append, List.length_replicate] <;> omega)))
local macro_rules | `(tactic| walk_at "ro") => `(tactic| (first
  | with_reducible exact ro_I0
  | with_reducible exact ro_1018
  | with_reducible exact ro_neC
  | with_reducible exact ro_eqC
  | with_reducible exact ro_neI
  | with_reducible exact ro_eqI
  | with_reducible exact ro_neB
  | with_reducible exact ro_eqB
  | ((with_reducible apply ro_mod); (walk_at "side"))
  | ((with_reducible apply ro_div) <;> (walk_at "side"))
  | ((with_reducible apply ro_divW) <;> (walk_at "side"))
  | with_reducible exact ro_1012
  | with_reducible exact ro_1015
  | ((with_reducible apply ro_mulL) <;> (walk_at "side"))
  | ((with_reducible apply ro_mulR) <;> (walk_at "side"))
  | ((with_reducible apply ro_addC); (walk_at "side"))
  | ((with_reducible apply ro_ixC) <;> (walk_at "side"))
  | ((with_reducible apply ro_ixI) <;> (walk_at "side"))
  | ((with_reducible apply ro_ixIN) <;> (walk_at "side"))
  | ((with_reducible apply ro_ixT2) <;> (walk_at "side"))
  | ((with_reducible apply ro_ixG) <;> (walk_at "side"))
  | ((with_reducible apply ro_eq); exact rfl)
  | ((with_reducible apply ro_ne); exact rfl)
  | with_reducible exact ro_isN
  | with_reducible exact ro_notN
  | with_reducible exact ro_eqL
  | with_reducible exact ro_neL
  | with_reducible exact ro_eqU
  | ((with_reducible apply ro_cat); (walk_at "side"))
  | with_reducible exact ro_inLi
  | with_reducible exact ro_inNi
  | with_reducible exact ro_inUi
  | ((with_reducible apply ro_inL) <;> (walk_at "side"))
  | ((with_reducible apply ro_inN) <;> (walk_at "side"))
  | ((with_reducible apply ro_inU) <;> (walk_at "side"))))
local macro_rules | `(tactic| walk_at "rc") => `(tactic| (first
  | with_reducible exact rc_int
  | with_reducible exact rc_intB
  | with_reducible exact rc_max2
  | ((with_reducible apply rc_lenC); (walk_at "side"))
  | with_reducible exact rc_lenI
  | with_reducible exact rc_lenT
  | with_reducible exact rc_lenIN
  | with_reducible exact rc_lenTN
  | with_reducible exact rc_lenL
  | with_reducible exact rc_lenN
  | with_reducible exact rc_lenU
  | with_reducible exact rc_listL
  | with_reducible exact rc_listU
  | with_reducible exact rc_tupL
  | with_reducible exact rc_tupN
  | ((with_reducible apply rc_isi_int); decide +kernel)
  | ((with_reducible apply rc_isi_str); decide +kernel)
  | ((with_reducible apply rc_isi_bl); decide +kernel)
  | ((with_reducible apply rc_isi_non); decide +kernel)
  | ((with_reducible apply rc_isi_u); decide +kernel)
  | ((with_reducible apply rc_isi_l); decide +kernel)))
local macro_rules | `(tactic| walk_at "er") => `(tactic| (first
  | ((with_reducible apply er_var); (exact rfl); assumption)
  | ((with_reducible apply er_v); exact rfl)
  | with_reducible exact er_c
  | ((with_reducible apply er_pick); (walk_at "er"); (walk_at "er"); (walk_at "er"))
  | ((with_reducible apply er_op); (walk_at "er"); (walk_at "er"); (walk_at "ro"))
  | ((with_reducible apply er_cb); (walk_at "era"); (walk_at "rc"))
  | ((with_reducible apply er_lst'); (walk_at "era"); (exact rfl); (walk_at "side"))
  | ((with_reducible apply er_tup'); (walk_at "era"); (exact rfl); (walk_at "side"))
  | ((with_reducible apply er_notV); (walk_at "er"))
  | ((with_reducible apply er_andV); (walk_at "er"); (intro _; (walk_at "er")))
  | ((with_reducible apply er_orV); (walk_at "er"); (intro _; (walk_at "er")))
  | ((with_reducible apply er_ite); (walk_at "et"); (intro _; (walk_at "er")); (intro _; (walk_at "er")))))
local macro_rules | `(tactic| walk_at "era") => `(tactic| (first
  | with_reducible exact era_nil
  | ((with_reducible apply era_cons); (walk_at "er"); (walk_at "era"))))
local macro_rules | `(tactic| walk_at "et") => `(tactic| (first
  | ((with_reducible apply et_an); (walk_at "et"); (intro _; (walk_at "et")))
  | ((with_reducible apply et_orr); (walk_at "et"); (intro _; (walk_at "et")))
  | ((with_reducible apply et_nt); (walk_at "et"))
  | ((with_reducible apply et1); (walk_at "er"))
  | ((with_reducible apply et2); (walk_at "er"))))

section
variable {P : Program} {w : World} {K : PySem.W.Frag} {mg : Str → Option Value} {base : Heap}

def okP (p : Nat × Nat) : Bool := p.1 == p.2 || (p.1 == 45 || p.2 == 45)
def agreeM (a b : List Nat) : Bool := (a.zip b).all okP
theorem zip_at {a b : List Nat} {i c d : Nat} (h1 : a[i]? = some c) (h2 : b[i]? = some d) : (a.zip b)[i]? = some (c, d) := List.getElem?_zip_eq_some (z := (c, d)) |>.mpr ⟨h1, h2⟩
theorem all_next {α : Type} {l : List α} {p : α → Bool} {i : Nat} {x : α} (h : l[i]? = some x) : (l.take (i + 1)).all p = ((l.take i).all p && p x) := by
  rw [List.take_add_one, h, List.all_append]
  simp
theorem all_end {α : Type} {l : List α} {p : α → Bool} : (l.take l.length).all p = l.all p := by rw [List.take_length]
theorem all_not {α : Type} {l : List α} {p : α → Bool} {i : Nat} {x : α} (h : l[i]? = some x) (hp : p x = false) : l.all p = false := by
  rw [List.all_eq_false]
  exact ⟨x, List.mem_of_getElem? h, by rw [hp]; exact Bool.false_ne_true⟩
abbrev s__law_cell : Stmt := topS 27
theorem sc__law_cell : FnScope ["script", "k", "seed", "cell"] ["script", "k"] (defScope s__law_cell) := ⟨rfl, rfl, rfl, by decide +kernel, rfl, by decide +kernel, by decide +kernel⟩

def seedM (ns : List Int) : Int := ns.foldl (fun s c => (s * 31 + c % 1000003) % 1000003) 17
theorem seedM_next {ns : List Int} {i : Nat} {x : Int} (h : ns[i]? = some x) : seedM (ns.take (i + 1)) = (seedM (ns.take i) * 31 + x % 1000003) % 1000003 := by
  unfold seedM
  rw [List.take_add_one, h, List.foldl_append]
  rfl
theorem seedM_bound (ns : List Int) : 0 ≤ seedM ns ∧ seedM ns < 1000003 := by
  unfold seedM
  suffices h : ∀ (l : List Int) (s : Int), 0 ≤ s ∧ s < 1000003 → 0 ≤ l.foldl (fun s c => (s * 31 + c % 1000003) % 1000003) s ∧ l.foldl (fun s c => (s * 31 + c % 1000003) % 1000003) s < 1000003 from h ns 17 (by omega)
  intro l
  induction l with
  | nil => intro s h; exact h
  | cons c r ih => intro s h; exact ih ((s * 31 + c % 1000003) % 1000003) (by omega)
def cellM (ns : List Int) (k : Nat) : Int := if k < ns.length then ns.getD k 0 else ((seedM ns + 7) * ((k : Int) + 3) * 69621) % 2147483647
abbrev sp__law_cell (K : PySem.W.Frag) : Sp := spR K (fun a : List Int × Nat => a.1.length ≤ 63 ∧ a.2 ≤ 1000) (fun a => [.l (vis a.1), .i (a.2 : Int)]) fun a => .i (cellM a.1 a.2)
theorem has__law_cell (T : Txt K mg) (h : At K mg "_law_cell" s__law_cell ["script", "k"]) : Has P w K mg base 1 "_law_cell" ["script", "k"] (sp__law_cell K) := by
  refine h.hasR sc__law_cell (fun _ => rfl) fun f cdv A outer s H a vs Q E hr hp hv hk => ?_
  obtain ⟨ns, k⟩ := a
  obtain ⟨hl, hk1⟩ := hp
  replace hl : ns.length ≤ 63 := hl
  replace hk1 : k ≤ 1000 := hk1
  rcases hv with _ | ⟨hs, _ | ⟨rfl, _ | _⟩⟩
  obtain ⟨p, rfl, hS⟩ := hs
  have hs : Is K H (.l (vis ns)) (.ref p) := ⟨p, rfl, hS⟩
  have sc := sc__law_cell
  refine ⟨_, (pss_cons (ps_if (pt_cmpR op_lt (pv 1) (pe_callB (cr_len_k (K := K)) (by rfl) T.b_len (by decide +kernel) (pa_cons (pv 0) pa_nil)) (nomark _)) (pss_one (ps_ret (pe_ix (ix_list_k (K := K)) (pv 0) (pv 1) (fun _ _ => rfl)))) pss_nil)
    (pss_cons (ps_set (i := 2) sc.nd rfl (Or.inl rfl) pe_int)
    (pss_cons (ps_for PassesOwn.never rfl (pi_list_k (K := K) (pv 0)) (pg_name (i := 3) sc.nd rfl (Or.inl rfl)) (pss_one (ps_set (i := 2) sc.nd rfl (Or.inl rfl) (pe_op op_mod (pe_callTy cr_int (by rfl) T.b_int (by decide +kernel) (pa_cons (pe_op op_add (pe_op op_mul (pv 2) pe_int) (pe_op op_mod (pe_callTy cr_int (by rfl) T.b_int (by decide +kernel) (pa_cons (pv 3) pa_nil)) pe_int)) pa_nil)) pe_int))))
    (pss_one (ps_ret (pe_op op_mod (pe_callTy cr_int (by rfl) T.b_int (by decide +kernel) (pa_cons (pe_op op_mul (pe_op op_mul (pe_op op_add (pv 2) pe_int) (pe_op op_add (pv 1) pe_int)) pe_int) pa_nil)) pe_int)))))), ?_⟩
  refine' a_when (K := K) ?g1 ?g2 ?g3
  case g1 => walk_at "et"
  case g2 =>
    intro hb H1 e1
    have hb' : k < ns.length := by simpa using hb
    replace hs := hs.mono e1
    refine' a_rete (K := K) ?g4 ?g5 e1 hk
    case g4 => walk_at "er"
    show Dd.i _ = Dd.i (if k < ns.length then _ else _)
    rw [if_pos hb']
    rfl
  case g3 =>
    intro hb H1 e1
    have hb' : ¬ k < ns.length := by simpa using hb
    refine' a_setv (K := K) ?g6 ?g7
    case g6 => walk_at "er"
    intro H2 e2
    refine b_forA (K := K) (a := p) (xs := vis ns) (er_v rfl) (ex_l (e1.trans e2) hS) (fun i σ' H' => ∃ y, σ' = [some (.ref p), some (.int (k : Int)), some (.int (seedM (ns.take i))), y] ∧ Ex H H') (fun H3 e3 => ⟨none, rfl, (e1.trans e2).trans e3⟩) (fun i σ' H' _ ⟨_, _, e⟩ => ex_l e hS) ?_ ?_
    · rintro i x σ' H' hx ⟨y, rfl, e⟩
      obtain ⟨n, hn, rfl⟩ : ∃ n, ns[i]? = some n ∧ V.int n = x := by
        rw [List.getElem?_map] at hx
        cases q : ns[i]? with
        | none => rw [q] at hx; cases hx
        | some n => rw [q] at hx; exact ⟨n, rfl, Option.some.inj hx⟩
      have hb := seedM_bound (ns.take i)
      refine' a_setv1 (K := K) ?g8 ?g9
      case g8 => walk_at "er"
      intro H4 e4
      refine ⟨some (.int n), ?_, e.trans e4⟩
      rw [seedM_next hn]
      rfl
    · rintro σ' H' ⟨y, rfl, e⟩
      rw [List.length_map, List.take_length]
      have hb := seedM_bound ns
      refine' a_rete (K := K) ?g10 ?g11 e hk
      case g10 => walk_at "er"
      show Dd.i _ = Dd.i (if k < ns.length then _ else _)
      rw [if_neg hb']
def rsM (x : Int) (sizes : List Int) (j : Nat) : Int := (sizes.take j).foldl (fun a b => a / b) x
theorem rsM_next {x b : Int} {sizes : List Int} {j : Nat} (h : sizes[j]? = some b) : rsM x sizes (j + 1) = rsM x sizes j / b := by
  unfold rsM
  rw [List.take_add_one, h, List.foldl_append]
  rfl
def sdM (s0 : Int) : Nat → Int
  | 0 => s0
  | i + 1 => (sdM s0 i * 48271 + 974711 * (i : Int) + 12345) % 2147483647
def twM (s : Int) : Int := (s * (s / 65537 + 3)) % 2147483629
def draw1 (x : Int) (sizes : List Int) : List Int := sizes.zipIdx.map fun p => rsM x sizes p.2 % p.1
def draw2 (s0 : Int) (sizes : List Int) : List Int := sizes.zipIdx.map fun p => twM (sdM s0 (p.2 + 1)) / 19 % p.1
end
end Mi

set_option maxHeartbeats 4000000
namespace Mi
open PySem PySem.Spec PyProof.Rows L2 Evl
local macro_rules | `(tactic| walk_at "side") => `(tactic| (first | assumption | omega | exact rfl | decide | (simp only [List.length_cons, List.length_nil, List.length_map, List.length_append, List.length_replicate] <;> omega)))
local macro_rules | `(tactic| walk_at "ro") => `(tactic| (first
  | with_reducible exact ro_I0
  | with_reducible exact ro_1018
  | with_reducible exact ro_neC
  | with_reducible exact ro_eqC
  | with_reducible exact ro_neI
  | with_reducible exact ro_eqI
  | with_reducible exact ro_neB
  | with_reducible exact ro_eqB
  | ((with_reducible apply ro_mod); (walk_at "side"))
  | ((with_reducible apply ro_div) <;> (walk_at "side"))
  | ((with_reducible apply ro_divW) <;> (walk_at "side"))
  | with_reducible exact ro_1012
  | with_reducible exact ro_1015
  | ((with_reducible apply ro_mulL) <;> (walk_at "side"))
  | ((with_reducible apply ro_mulR) <;> (walk_at "side"))
  | ((with_reducible apply ro_addC); (walk_at "side"))
  | ((with_reducible apply ro_ixC) <;> (walk_at "side"))
  | ((with_reducible apply ro_ixI) <;> (walk_at "side"))
  | ((with_reducible apply ro_ixIN) <;> (walk_at "side"))
  | ((with_reducible apply ro_ixT2) <;> (walk_at "side"))
  | ((with_reducible apply ro_ixG) <;> (walk_at "side"))
  | ((with_reducible apply ro_eq); exact rfl)
  | ((with_reducible apply ro_ne); exact rfl)
  | with_reducible exact ro_isN
  | with_reducible exact ro_notN
  | with_reducible exact ro_eqL
  | with_reducible exact ro_neL
  | with_reducible exact ro_eqU
  | ((with_reducible apply ro_cat); (walk_at "side"))
  | with_reducible exact ro_inLi
  | with_reducible exact ro_inNi
  | with_reducible exact ro_inUi
  | ((with_reducible apply ro_inL) <;> (walk_at "side"))
  | ((with_reducible apply ro_inN) <;> (walk_at "side"))
  | ((with_reducible apply ro_inU) <;> (walk_at "side"))))
local macro_rules | `(tactic| walk_at "rc") => `(tactic| (first
  | with_reducible exact rc_int
  | with_reducible exact rc_intB
  | with_reducible exact rc_max2
  | ((with_reducible apply rc_lenC); (walk_at "side"))
  | with_reducible exact rc_lenI
  | with_reducible exact rc_lenT
  | with_reducible exact rc_lenIN
  | with_reducible exact rc_lenTN
  | with_reducible exact rc_lenL
  | with_reducible exact rc_lenN
  | with_reducible exact rc_lenU
  | with_reducible exact rc_listL
  | with_reducible exact rc_listU
  | with_reducible exact rc_tupL
  | with_reducible exact rc_tupN
  | ((with_reducible apply rc_isi_int); decide +kernel)
  | ((with_reducible apply rc_isi_str); decide +kernel)
  | ((with_reducible apply rc_isi_bl); decide +kernel)
  | ((with_reducible apply rc_isi_non); decide +kernel)
  | ((with_reducible apply rc_isi_u); decide +kernel)
  | ((with_reducible apply rc_isi_l); decide +kernel)))
local macro_rules | `(tactic| walk_at "er") => `(tactic| (first
  | ((with_reducible apply er_var); (exact rfl); assumption)
  | ((with_reducible apply er_v); exact rfl)
  | with_reducible exact er_c
  | ((with_reducible apply er_pick); (walk_at "er"); (walk_at "er"); (walk_at "er"))
  | ((with_reducible apply er_op); (walk_at "er"); (walk_at "er"); (walk_at "ro"))
  | ((with_reducible apply er_cb); (walk_at "era"); (walk_at "rc"))
  | ((with_reducible apply er_lst'); (walk_at "era"); (exact rfl); (walk_at "side"))
  | ((with_reducible apply er_tup'); (walk_at "era"); (exact rfl); (walk_at "side"))
  | ((with_reducible apply er_notV); (walk_at "er"))
  | ((with_reducible apply er_andV); (walk_at "er"); (intro _; (walk_at "er")))
  | ((with_reducible apply er_orV); (walk_at "er"); (intro _; (walk_at "er")))
  | ((with_reducible apply er_ite); (walk_at "et"); (intro _; (walk_at "er")); (intro _; (walk_at "er")))))
local macro_rules | `(tactic| walk_at "era") => `(tactic| (first
  | with_reducible exact era_nil
  | ((with_reducible apply era_cons); (walk_at "er"); (walk_at "era"))))
local macro_rules | `(tactic| walk_at "et") => `(tactic| (first
  | ((with_reducible apply et_an); (walk_at "et"); (intro _; (walk_at "et")))
  | ((with_reducible apply et_orr); (walk_at "et"); (intro _; (walk_at "et")))
  | ((with_reducible apply et_nt); (walk_at "et"))
  | ((with_reducible apply et1); (walk_at "er"))
  | ((with_reducible apply et2); (walk_at "er"))))

section
variable {P : Program} {w : World} {K : PySem.W.Frag} {mg : Str → Option Value} {base : Heap}
abbrev s__law_draw : Stmt := topS 28
theorem sc__law_draw : FnScope ["script", "k", "sizes", "out", "rest", "base", "seed", "spot", "twice"] ["script", "k", "sizes"] (defScope s__law_draw) := ⟨rfl, rfl, rfl, by decide +kernel, rfl, by decide +kernel, by decide +kernel⟩

def drawM (ns : List Int) (k : Nat) (sizes : List Int) : List Int := if 1000000000000000000 ≤ cellM ns k then draw1 (cellM ns k - 1000000000000000000) sizes else draw2 ((cellM ns k + 7919 * (k : Int)) % 2147483629) sizes
theorem drawM_len (ns : List Int) (k : Nat) (sizes : List Int) : (drawM ns k sizes).length = sizes.length := by
  unfold drawM draw1 draw2
  split <;> simp
theorem drawM_bd {ns : List Int} {k : Nat} {sizes : List Int} (hs : ∀ s ∈ sizes, 0 < s) {i : Nat} (h : i < sizes.length) : 0 ≤ (drawM ns k sizes).getD i 0 ∧ (drawM ns k sizes).getD i 0 < sizes.getD i 0 := by
  have hb : 0 < sizes[i] := hs _ (List.getElem_mem h)
  have e : sizes[i]? = some sizes[i] := List.getElem?_eq_getElem h
  rw [List.getD_eq_getElem?_getD, List.getD_eq_getElem?_getD, e]
  unfold drawM
  split
  · unfold draw1
    rw [List.getElem?_map, zipIdx_at e]
    exact ⟨Int.emod_nonneg _ (by omega), Int.emod_lt_of_pos _ hb⟩
  · unfold draw2
    rw [List.getElem?_map, zipIdx_at e]
    exact ⟨Int.emod_nonneg _ (by omega), Int.emod_lt_of_pos _ hb⟩
abbrev sp__law_draw (K : PySem.W.Frag) : Sp := spF K (fun a : List Int × Nat × List Int => a.1.length ≤ 63 ∧ a.2.1 ≤ 1000 ∧ a.2.2.length ≤ 1000 ∧ ∀ s ∈ a.2.2, 0 < s ∧ s < 1000000) (fun a => [.l (vis a.1), .i (a.2.1 : Int), .l (vis a.2.2)]) fun a => .n (vis (drawM a.1 a.2.1 a.2.2))
theorem has__law_draw (T : Txt K mg) (h : At K mg "_law_draw" s__law_draw ["script", "k", "sizes"]) (C__law_cell : Has P w K mg base 1 "_law_cell" ["script", "k"] (sp__law_cell K)) : Has P w K mg base 2 "_law_draw" ["script", "k", "sizes"] (sp__law_draw K) := by
  refine h.hasF sc__law_draw (fun _ => rfl) fun f cdv Ar outer s G H a vs Q E hr hp hA hv hk => ?_
  obtain ⟨ns, kk, sizes⟩ := a
  obtain ⟨hn, hkk, hz, hpos⟩ := hp
  replace hn : ns.length ≤ 63 := hn
  replace hkk : kk ≤ 1000 := hkk
  replace hz : sizes.length ≤ 1000 := hz
  replace hpos : ∀ s ∈ sizes, 0 < s ∧ s < 1000000 := hpos
  rcases hv with _ | ⟨hsc, _ | ⟨rfl, _ | ⟨⟨pz, rfl, hZ⟩, _ | _⟩⟩⟩
  rename_i xs
  replace hsc : Is K G (.l (vis ns)) xs := hsc
  replace hsc : Is K H (.l (vis ns)) xs := hsc.mono hA
  replace hZ := ex_l hA hZ
  have hzz : Is K H (.l (vis sizes)) (.ref pz) := ⟨pz, rfl, hZ⟩
  have sc := sc__law_draw
  have hx0 : drawM ns kk sizes = if 1000000000000000000 ≤ cellM ns kk then draw1 (cellM ns kk - 1000000000000000000) sizes else draw2 ((cellM ns kk + 7919 * (kk : Int)) % 2147483629) sizes := rfl
  refine ⟨_, (pss_cons (ps_set (i := 3) sc.nd rfl (Or.inl rfl) (pe_lst pa_nil))
    (pss_cons (ps_set (i := 4) sc.nd rfl (Or.inl rfl) (pe_callTy cr_int (by rfl) T.b_int (by decide +kernel) (pa_cons (pe_callH C__law_cell (hr.mono (by decide)) (pa_cons (pv 0) (pa_cons (pv 1) pa_nil))) pa_nil)))
    (pss_cons (ps_if (pt_cmpR op_ge (pv 4) (pe_op op_pow pe_int pe_int) (nomark _)) (pss_cons (ps_set (i := 4) sc.nd rfl (Or.inl rfl) (pe_op op_sub (pv 4) (pe_op op_pow pe_int pe_int)))
    (pss_cons (ps_for PassesOwn.never rfl (pi_list_k (K := K) (pv 2)) (pg_name (i := 5) sc.nd rfl (Or.inl rfl)) (pss_cons (ps_expr (pe_bm_k (K := K) PySem.F.plainAttrs_list PySem.F.slot_list_append PySem.F.type_list_append mt_append (pv 3) (pa_cons (pe_op op_mod (pe_callTy cr_int (by rfl) T.b_int (by decide +kernel) (pa_cons (pv 4) pa_nil)) (pv 5)) pa_nil)))
    (pss_one (ps_set (i := 4) sc.nd rfl (Or.inl rfl) (pe_op op_fdiv (pe_callTy cr_int (by rfl) T.b_int (by decide +kernel) (pa_cons (pv 4) pa_nil)) (pv 5))))))
    (pss_one (ps_ret (pv 3))))) pss_nil)
    (pss_cons (ps_set (i := 6) sc.nd rfl (Or.inl rfl) (pe_op op_mod (pe_callTy cr_int (by rfl) T.b_int (by decide +kernel) (pa_cons (pe_op op_add (pv 4) (pe_op op_mul pe_int (pv 1))) pa_nil)) pe_int))
    (pss_cons (ps_for PassesOwn.never rfl (pi_range1 (by rfl) T.b_range (pa_cons (pe_callB (cr_len_k (K := K)) (by rfl) T.b_len (by decide +kernel) (pa_cons (pv 2) pa_nil)) pa_nil)) (pg_name (i := 7) sc.nd rfl (Or.inl rfl)) (pss_cons (ps_set (i := 6) sc.nd rfl (Or.inl rfl) (pe_op op_mod (pe_callTy cr_int (by rfl) T.b_int (by decide +kernel) (pa_cons (pe_op op_add (pe_op op_add (pe_op op_mul (pv 6) pe_int) (pe_op op_mul pe_int (pv 7))) pe_int) pa_nil)) pe_int))
    (pss_cons (ps_set (i := 8) sc.nd rfl (Or.inl rfl) (pe_op op_mod (pe_callTy cr_int (by rfl) T.b_int (by decide +kernel) (pa_cons (pe_op op_mul (pv 6) (pe_op op_add (pe_op op_fdiv (pv 6) pe_int) pe_int)) pa_nil)) pe_int))
    (pss_one (ps_expr (pe_bm_k (K := K) PySem.F.plainAttrs_list PySem.F.slot_list_append PySem.F.type_list_append mt_append (pv 3) (pa_cons (pe_op op_mod (pe_op op_fdiv (pv 8) pe_int) (pe_ix (ix_list_k (K := K)) (pv 2) (pv 7) (fun _ _ => rfl))) pa_nil)))))))
    (pss_one (ps_ret (pv 3)))))))), ?_⟩
  refine a_new fun o H1 ho e1 h1 => ?_
  refine' a_setv (K := K) (x := .int (cellM ns kk)) (er_cb (era_cons (er_call (ns, kk) (era_cons (er_var rfl (hsc.mono e1)) (era_cons (er_v rfl) era_nil)) rfl ⟨hn, hkk⟩) era_nil) rc_int) ?g2
  generalize cellM ns kk = x at *
  intro H2 e2
  have h2 := e2 o _ h1
  refine' a_when (K := K) ?g3 ?g4 ?g5
  case g3 => walk_at "et"
  case g4 =>
    intro hb H3 e3
    have hb' : 1000000000000000000 ≤ x := by simpa using hb
    refine' a_setv (K := K) ?g6 ?g7
    case g6 => walk_at "er"
    intro H4 e4
    have h4 := e4 o _ (e3 o _ h2)
    have E4 : Ex H H4 := ((e1.trans e2).trans e3).trans e4
    refine b_forA (K := K) (a := pz) (xs := vis sizes) (er_v rfl) (ex_l E4 hZ) (fun i σ' H' => ∃ y, σ' = [some xs, some (.int (kk : Int)), some (.ref pz), some (.ref o), some (.int (rsM (x - 1000000000000000000) sizes i)), y, none, none, none] ∧ Ex H H' ∧ H' o = some (.lst (vis ((sizes.zipIdx.take i).map fun p => rsM (x - 1000000000000000000) sizes p.2 % p.1)))) (fun H5 e5 => ⟨none, rfl, E4.trans e5, e5 o _ h4⟩) (fun i σ' H' _ ⟨_, _, e, _⟩ => ex_l e hZ) ?_ ?_
    · rintro i y0 σ' H' hx ⟨y, rfl, e, hO⟩
      obtain ⟨n, hn, rfl⟩ := vis_at hx
      have hn2 := hpos n (List.mem_of_getElem? hn)
      have hn3 : 0 < n := hn2.1
      have hi : i < sizes.length := (List.getElem?_eq_some_iff.mp hn).1
      refine' b_app (K := K) hO (er_v rfl) ?g8 (by rw [List.length_map, List.length_map, List.length_take]; omega) ?g9
      case g8 => walk_at "er"
      intro H5 e5
      have E5 : Ex H (upd H5 o (.lst (vis ((sizes.zipIdx.take i).map fun p => rsM (x - 1000000000000000000) sizes p.2 % p.1) ++ [.int (rsM (x - 1000000000000000000) sizes i % n)]))) := Ex.mut (e.trans e5) ho
      refine' a_setv1 (K := K) ?g10 ?g11
      case g10 => walk_at "er"
      intro H6 e6
      refine ⟨some (.int n), ?_, E5.trans e6, ?_⟩
      · rw [rsM_next hn]
        rfl
      · rw [e6 o _ upd_same, map_take_next (zipIdx_at hn), vis_app]
    · rintro σ' H' ⟨y, rfl, e, hO⟩
      have hO2 : H' o = some (.lst (vis (drawM ns kk sizes))) := by
        rw [hO, List.length_map, List.take_of_length_le (by rw [List.length_zipIdx]; exact Nat.le_refl _)]
        rw [hx0]
        rw [if_pos hb']
        rfl
      exact ⟨.ref o, rfl, hk (.ref o) (upd G o (.lst (vis (drawM ns kk sizes)))) H' (Step.seal (Step.on hA e) ho (ex_out hA ho) hO2) ⟨o, rfl, upd_same⟩⟩
  case g5 =>
    intro hb H3 e3
    have hb' : ¬ 1000000000000000000 ≤ x := by simpa using hb
    refine' a_setv (K := K) ?g12 ?g13
    case g12 => walk_at "er"
    intro H4 e4
    have h4 := e4 o _ (e3 o _ h2)
    have E4 : Ex H H4 := ((e1.trans e2).trans e3).trans e4
    have hz4 := hzz.mono E4
    refine b_forR1 (K := K) (n := sizes.length) ?_ (by omega) (fun i σ' H' => ∃ y1 y2, σ' = [some xs, some (.int (kk : Int)), some (.ref pz), some (.ref o), some (.int x), none, some (.int (sdM ((x + 7919 * (kk : Int)) % 2147483629) i)), y1, y2] ∧ Ex H H' ∧ H' o = some (.lst (vis ((sizes.zipIdx.take i).map fun p => twM (sdM ((x + 7919 * (kk : Int)) % 2147483629) (p.2 + 1)) / 19 % p.1)))) (fun H5 e5 => ⟨none, none, rfl, E4.trans e5, e5 o _ h4⟩) ?_ ?_
    · walk_at "era"
    · rintro i σ' H' hi ⟨y1, y2, rfl, e, hO⟩
      have hn : sizes[i]? = some sizes[i] := List.getElem?_eq_getElem hi
      have hn2 := hpos sizes[i] (List.getElem_mem hi)
      have hg : sizes.getD i 0 = sizes[i] := by rw [List.getD_eq_getElem?_getD, hn]; rfl
      have hn3 : 0 < sizes.getD ((i : Nat) : Int).toNat 0 := by rw [Int.toNat_natCast, hg]; exact hn2.1
      have hzi := hzz.mono e
      generalize hsd : sdM ((x + 7919 * (kk : Int)) % 2147483629) i = sd
      refine' a_setv (K := K) ?g14 ?g15
      case g14 => walk_at "er"
      intro H5 e5
      have hsd1 : sdM ((x + 7919 * (kk : Int)) % 2147483629) (i + 1) = (sd * 48271 + 974711 * (i : Int) + 12345) % 2147483647 := by rw [← hsd]; rfl
      have hb1 : 0 ≤ (sd * 48271 + 974711 * (i : Int) + 12345) % 2147483647 := Int.emod_nonneg _ (by decide)
      have hb2 : (sd * 48271 + 974711 * (i : Int) + 12345) % 2147483647 < 2147483647 := Int.emod_lt_of_pos _ (by decide)
      generalize hsd2 : (sd * 48271 + 974711 * (i : Int) + 12345) % 2147483647 = sd2 at hsd1 hb1 hb2
      refine' a_setv (K := K) ?g16 ?g17
      case g16 => walk_at "er"
      intro H6 e6
      replace hzi := (hzi.mono e5).mono e6
      refine' a_app (K := K) (e6 o _ (e5 o _ hO)) (er_v rfl) ?g18 (by rw [List.length_map, List.length_map, List.length_take]; omega) ?g19
      case g18 => walk_at "er"
      intro H7 e7
      refine ⟨some (.int i), some (.int (twM sd2)), ?_, Ex.mut (((e.trans e5).trans e6).trans e7) ho, ?_⟩
      · rw [hsd1]
        rfl
      · rw [upd_same, map_take_next (zipIdx_at hn), vis_app, hsd1, Int.toNat_natCast, hg]
        rfl
    · rintro σ' H' ⟨y1, y2, rfl, e, hO⟩
      have hO2 : H' o = some (.lst (vis (drawM ns kk sizes))) := by
        rw [hO, List.take_of_length_le (by rw [List.length_zipIdx]; exact Nat.le_refl _)]
        rw [hx0]
        rw [if_neg hb']
        rfl
      exact ⟨.ref o, rfl, hk (.ref o) (upd G o (.lst (vis (drawM ns kk sizes)))) H' (Step.seal (Step.on hA e) ho (ex_out hA ho) hO2) ⟨o, rfl, upd_same⟩⟩
end
end Mi

set_option maxHeartbeats 4000000
namespace Mi
open PySem PySem.Spec PyProof.Rows L2 Evl
local macro_rules | `(tactic| walk_at "side") => `(tactic| (first | assumption | omega | exact rfl | decide | (simp only [List.length_cons, List.length_nil, List.length_map, List.length_append, List.length_replicate] <;> omega)))
local macro_rules | `(tactic| walk_at "ro") => `(tactic| (first
  | with_reducible exact ro_I0
  | with_reducible exact ro_1018
  | with_reducible exact ro_neC
  | with_reducible exact ro_eqC
  | with_reducible exact ro_neI
  | with_reducible exact ro_eqI
  | with_reducible exact ro_neB
  | with_reducible exact ro_eqB
  | ((with_reducible apply ro_mod); (walk_at "side"))
  | ((with_reducible apply ro_div) <;> (walk_at "side"))
  | ((with_reducible apply ro_divW) <;> (walk_at "side"))
  | with_reducible exact ro_1012
  | with_reducible exact ro_1015
  | ((with_reducible apply ro_mulL) <;> (walk_at "side"))
  | ((with_reducible apply ro_mulR) <;> (walk_at "side"))
  | ((with_reducible apply ro_addC); (walk_at "side"))
  | ((with_reducible apply ro_ixC) <;> (walk_at "side"))
  | ((with_reducible apply ro_ixI) <;> (walk_at "side"))
  | ((with_reducible apply ro_ixIN) <;> (walk_at "side"))
  | ((with_reducible apply ro_ixT2) <;> (walk_at "side"))
  | ((with_reducible apply ro_ixG) <;> (walk_at "side"))
  | ((with_reducible apply ro_eq); exact rfl)
  | ((with_reducible apply ro_ne); exact rfl)
  | with_reducible exact ro_isN
  | with_reducible exact ro_notN
  | with_reducible exact ro_eqL
  | with_reducible exact ro_neL
  | with_reducible exact ro_eqU
  | ((with_reducible apply ro_cat); (walk_at "side"))
  | with_reducible exact ro_inLi
  | with_reducible exact ro_inNi
  | with_reducible exact ro_inUi
  | ((with_reducible apply ro_inL) <;> (walk_at "side"))
  | ((with_reducible apply ro_inN) <;> (walk_at "side"))
  | ((with_reducible apply ro_inU) <;> (walk_at "side"))))
local macro_rules | `(tactic| walk_at "rc") => `(tactic| (first
  | with_reducible exact rc_int
  | with_reducible exact rc_intB
  | with_reducible exact rc_max2
  | ((with_reducible apply rc_lenC); (walk_at "side"))
  | with_reducible exact rc_lenI
  | with_reducible exact rc_lenT
  | with_reducible exact rc_lenIN
  | with_reducible exact rc_lenTN
  | with_reducible exact rc_lenL
  | with_reducible exact rc_lenN
  | with_reducible exact rc_lenU
  | with_reducible exact rc_listL
  | with_reducible exact rc_listU
  | with_reducible exact rc_tupL
  | with_reducible exact rc_tupN
  | ((with_reducible apply rc_isi_int); decide +kernel)
  | ((with_reducible apply rc_isi_str); decide +kernel)
  | ((with_reducible apply rc_isi_bl); decide +kernel)
  | ((with_reducible apply rc_isi_non); decide +kernel)
  | ((with_reducible apply rc_isi_u); decide +kernel)
  | ((with_reducible apply rc_isi_l); decide +kernel)))
local macro_rules | `(tactic| walk_at "er") => `(tactic| (first
  | ((with_reducible apply er_var); (exact rfl); assumption)
  | ((with_reducible apply er_v); exact rfl)
  | with_reducible exact er_c
  | ((with_reducible apply er_pick); (walk_at "er"); (walk_at "er"); (walk_at "er"))
  | ((with_reducible apply er_op); (walk_at "er"); (walk_at "er"); (walk_at "ro"))
  | ((with_reducible apply er_cb); (walk_at "era"); (walk_at "rc"))
  | ((with_reducible apply er_lst'); (walk_at "era"); (exact rfl); (walk_at "side"))
  | ((with_reducible apply er_tup'); (walk_at "era"); (exact rfl); (walk_at "side"))
  | ((with_reducible apply er_notV); (walk_at "er"))
  | ((with_reducible apply er_andV); (walk_at "er"); (intro _; (walk_at "er")))
  | ((with_reducible apply er_orV); (walk_at "er"); (intro _; (walk_at "er")))
  | ((with_reducible apply er_ite); (walk_at "et"); (intro _; (walk_at "er")); (intro _; (walk_at "er")))))
local macro_rules | `(tactic| walk_at "era") => `(tactic| (first
  | with_reducible exact era_nil
  | ((with_reducible apply era_cons); (walk_at "er"); (walk_at "era"))))
local macro_rules | `(tactic| walk_at "et") => `(tactic| (first
  | ((with_reducible apply et_an); (walk_at "et"); (intro _; (walk_at "et")))
  | ((with_reducible apply et_orr); (walk_at "et"); (intro _; (walk_at "et")))
  | ((with_reducible apply et_nt); (walk_at "et"))
  | ((with_reducible apply et1); (walk_at "er"))
  | ((with_reducible apply et2); (walk_at "er"))))

section
variable {P : Program} {w : World} {K : PySem.W.Frag} {mg : Str → Option Value} {base : Heap}
abbrev s__law_inks : Stmt := topS 29
theorem sc__law_inks : FnScope ["spots", "alls", "first", "second", "third"] ["spots"] (defScope s__law_inks) := ⟨rfl, rfl, rfl, by decide +kernel, rfl, by decide +kernel, by decide +kernel⟩

def ink2 (f n : Int) : Int := (f + 1 + n) % 27
def ink3 (f m n : Int) : Int := if (f + 1 + n) % 27 = ink2 f m then (f + 26) % 27 else (f + 1 + n) % 27
def inkF (sp : List Int) : Int := sp.getD 2 0 * (if sp.getD 1 0 < 2 then 1 else 0)
def inksM (sp : List Int) : List Nat := [alls.getD (inkF sp).toNat 0, alls.getD (ink2 (inkF sp) (sp.getD 3 0)).toNat 0, alls.getD (ink3 (inkF sp) (sp.getD 3 0) (sp.getD 4 0)).toNat 0]
def inkT (sp : List Int) : List Nat := if sp.getD 0 0 = 0 then alls else (inksM sp).take (([3, 3, 3, 2] : List Int).getD (sp.getD 0 0).toNat 0).toNat
structure InkOk (sp : List Int) : Prop where
  l5 : 5 ≤ sp.length
  lz : sp.length ≤ 1000
  b0 : 0 ≤ sp.getD 0 0 ∧ sp.getD 0 0 < 4
  b2 : 0 ≤ sp.getD 2 0 ∧ sp.getD 2 0 < 27
theorem inkF_bd {sp : List Int} (h : InkOk sp) : 0 ≤ inkF sp ∧ inkF sp < 27 := by
  obtain ⟨_, _, _, h1, h2⟩ := h
  unfold inkF
  split <;> omega
theorem alls_small {i : Nat} : alls.getD i 0 < 200 := by
  by_cases h : i < alls.length
  · have m : alls.getD i 0 ∈ alls := mem_getD h
    revert m
    generalize alls.getD i 0 = c
    intro m
    have q : ∀ c ∈ alls, c < 200 := by decide
    exact q c m
  · rw [List.getD_eq_getElem?_getD, List.getElem?_eq_none (by omega)]
    decide
theorem cut_few {j : Int} (h0 : 0 ≤ j) (h1 : j < 4) : 2 ≤ (([3, 3, 3, 2] : List Int).getD j.toNat 0).toNat ∧ (([3, 3, 3, 2] : List Int).getD j.toNat 0).toNat ≤ 3 ∧ ((([3, 3, 3, 2] : List Int).getD j.toNat 0).toNat : Int) = ([3, 3, 3, 2] : List Int).getD j.toNat 0 := by
  have : j = 0 ∨ j = 1 ∨ j = 2 ∨ j = 3 := by omega
  rcases this with rfl | rfl | rfl | rfl <;> decide
theorem inkT_ok {sp : List Int} (h : InkOk sp) : 1 ≤ (inkT sp).length ∧ (inkT sp).length ≤ 27 ∧ ∀ c ∈ inkT sp, c < 200 := by
  unfold inkT
  split
  · exact ⟨by decide, by decide, by decide⟩
  · obtain ⟨q1, q2, _⟩ := cut_few h.b0.1 h.b0.2
    refine ⟨?_, ?_, fun c hc => ?_⟩
    · rw [List.length_take]
      show 1 ≤ min _ 3
      omega
    · rw [List.length_take]
      show min _ 3 ≤ 27
      omega
    · have hc := List.mem_of_mem_take hc
      unfold inksM at hc
      simp only [List.mem_cons, List.not_mem_nil, or_false] at hc
      rcases hc with rfl | rfl | rfl <;> exact alls_small
abbrev sp__law_inks (K : PySem.W.Frag) : Sp := spR K (fun sp : List Int => InkOk sp) (fun sp => [.l (vis sp)]) fun sp => .s (S (inkT sp))
theorem has__law_inks (T : Txt K mg) (h : At K mg "_law_inks" s__law_inks ["spots"]) : Has P w K mg base 1 "_law_inks" ["spots"] (sp__law_inks K) := by
  refine h.hasR sc__law_inks (fun _ => rfl) fun f cdv A outer s H sp vs Q E hr hp hv hk => ?_
  have hF := inkF_bd hp
  obtain ⟨hl, hl2, h00, h22⟩ := hp
  rcases hv with _ | ⟨⟨p, rfl, hS⟩, _ | _⟩
  have hs : Is K H (.l (vis sp)) (.ref p) := ⟨p, rfl, hS⟩
  have sc := sc__law_inks
  refine ⟨_, (pss_cons (ps_set (i := 1) sc.nd rfl (Or.inl rfl) (pe_strS [46, 97, 98, 99, 100, 101, 102, 103, 104, 105, 106, 107, 108, 109, 110, 111, 112, 113, 114, 115, 116, 117, 118, 119, 120, 121, 122] (by rfl)))
    (pss_cons (ps_if (pt_cmpR op_eq (pe_ix (ix_list_k (K := K)) (pv 0) pe_int (fun _ _ => rfl)) pe_int (nomark _)) (pss_one (ps_ret (pv 1))) pss_nil)
    (pss_cons (ps_set (i := 2) sc.nd rfl (Or.inl rfl) (pe_op op_mul (pe_callTy cr_int (by rfl) T.b_int (by decide +kernel) (pa_cons (pe_ix (ix_list_k (K := K)) (pv 0) pe_int (fun _ _ => rfl)) pa_nil)) (pe_callTy cr_int (by rfl) T.b_int (by decide +kernel) (pa_cons (pe_cmpR op_lt (pe_ix (ix_list_k (K := K)) (pv 0) pe_int (fun _ _ => rfl)) pe_int (nomark _)) pa_nil))))
    (pss_cons (ps_set (i := 3) sc.nd rfl (Or.inl rfl) (pe_op op_mod (pe_op op_add (pe_op op_add (pv 2) pe_int) (pe_callTy cr_int (by rfl) T.b_int (by decide +kernel) (pa_cons (pe_ix (ix_list_k (K := K)) (pv 0) pe_int (fun _ _ => rfl)) pa_nil))) pe_int))
    (pss_cons (ps_set (i := 4) sc.nd rfl (Or.inl rfl) (pe_op op_mod (pe_op op_add (pe_op op_add (pv 2) pe_int) (pe_callTy cr_int (by rfl) T.b_int (by decide +kernel) (pa_cons (pe_ix (ix_list_k (K := K)) (pv 0) pe_int (fun _ _ => rfl)) pa_nil))) pe_int))
    (pss_cons (ps_if (pt_cmpR op_eq (pv 4) (pv 3) (nomark _)) (pss_one (ps_set (i := 4) sc.nd rfl (Or.inl rfl) (pe_op op_mod (pe_op op_add (pv 2) pe_int) pe_int))) pss_nil)
    (pss_one (ps_ret (pe_slice sl_str (pe_op op_addS (pe_op op_addS (pe_ix ix_str (pv 1) (pv 2) (fun _ _ => rfl)) (pe_ix ix_str (pv 1) (pv 3) (fun _ _ => rfl))) (pe_ix ix_str (pv 1) (pv 4) (fun _ _ => rfl))) po_none (po_some (pe_ix (ix_list_k (K := K)) (pe_lst (pa_cons pe_int (pa_cons pe_int (pa_cons pe_int (pa_cons pe_int pa_nil))))) (pe_ix (ix_list_k (K := K)) (pv 0) pe_int (fun _ _ => rfl)) (fun _ _ => rfl)))))))))))), ?_⟩
  refine' a_setv (K := K) (x := .str (S alls)) er_c ?g1
  intro H1 e1
  replace hs := hs.mono e1
  have h22a : 0 ≤ sp.getD (2 : Int).toNat 0 := h22.1
  have h22b : sp.getD (2 : Int).toNat 0 < 27 := h22.2
  refine' a_when (K := K) (b := decide (sp.getD 0 0 = 0)) (et1 (er_op (d1 := .i (sp.getD 0 0)) (Er.to (er_op (er_var rfl hs) er_c (ro_ixI (by decide) (by simp; omega))) rfl) er_c ro_eqI)) ?g3 ?g4
  case g3 =>
    intro hb H2 e2
    have hb' : sp.getD 0 0 = 0 := of_decide_eq_true hb
    refine a_rete (K := K) (er_v rfl) ?_ (e1.trans e2) hk
    show Dd.s (S alls) = Dd.s (S (inkT sp))
    unfold inkT
    rw [if_pos hb']
  intro hb H2 e2
  have hb' : ¬ sp.getD 0 0 = 0 := of_decide_eq_false hb
  replace hs := hs.mono e2
  refine' a_setv (K := K) (x := .int (inkF sp)) (Er.to ?g6 ?g7) ?g8
  case g6 => walk_at "er"
  case g7 =>
    show Dd.i (sp.getD 2 0 * (if decide (sp.getD 1 0 < 2) = true then 1 else 0)) = Dd.i (inkF sp)
    unfold inkF
    by_cases h : sp.getD 1 0 < 2
    · rw [decide_eq_true h, if_pos rfl, if_pos h]
    · rw [decide_eq_false h, if_neg Bool.false_ne_true, if_neg h]
  intro H3 e3
  replace hs := hs.mono e3
  refine' a_setv (K := K) ?g9 ?g10
  case g9 => walk_at "er"
  intro H4 e4
  replace hs := hs.mono e4
  refine' a_setv (K := K) ?g11 ?g12
  case g11 => walk_at "er"
  intro H5 e5
  replace hs := hs.mono e5
  refine' a_ifAsg (K := K) (x := .int (ink3 (inkF sp) (sp.getD 3 0) (sp.getD 4 0))) ?g13 ?g14 ?g15 ?g16
  case g13 => walk_at "et"
  case g14 =>
    intro hb
    have hb' : (inkF sp + 1 + sp.getD 4 0) % 27 = ink2 (inkF sp) (sp.getD 3 0) := of_decide_eq_true hb
    refine' Er.to (K := K) ?g17 ?g18
    case g17 => walk_at "er"
    show Dd.i _ = Dd.i _
    unfold ink3
    rw [if_pos hb']
  case g15 =>
    intro hb
    have hb' : ¬ (inkF sp + 1 + sp.getD 4 0) % 27 = ink2 (inkF sp) (sp.getD 3 0) := of_decide_eq_false hb
    have e0 : ink3 (inkF sp) (sp.getD 3 0) (sp.getD 4 0) = (inkF sp + 1 + sp.getD 4 0) % 27 := by
      unfold ink3
      rw [if_neg hb']
    rw [e0]
    rfl
  intro H6 e6
  replace hs := hs.mono e6
  have b2a : 0 ≤ ink2 (inkF sp) (sp.getD 3 0) := Int.emod_nonneg _ (by decide)
  have b2b : ink2 (inkF sp) (sp.getD 3 0) < 27 := Int.emod_lt_of_pos _ (by decide)
  have b3a : 0 ≤ ink3 (inkF sp) (sp.getD 3 0) (sp.getD 4 0) := by
    unfold ink3
    split <;> exact Int.emod_nonneg _ (by decide)
  have b3b : ink3 (inkF sp) (sp.getD 3 0) (sp.getD 4 0) < 27 := by
    unfold ink3
    split <;> exact Int.emod_lt_of_pos _ (by decide)
  have la : alls.length = 27 := rfl
  obtain ⟨_, _, q3⟩ := cut_few h00.1 h00.2
  refine a_rete (K := K) (er_slTo (l := inksM sp) (n := (([3, 3, 3, 2] : List Int).getD (sp.getD 0 0).toNat 0).toNat) (er_op (K := K) (d1 := .s (S ([alls.getD (inkF sp).toNat 0] ++ [alls.getD (ink2 (inkF sp) (sp.getD 3 0)).toNat 0]))) (d2 := .s (S [alls.getD (ink3 (inkF sp) (sp.getD 3 0) (sp.getD 4 0)).toNat 0])) (er_op (K := K) (d1 := .s (S [alls.getD (inkF sp).toNat 0])) (d2 := .s (S [alls.getD (ink2 (inkF sp) (sp.getD 3 0)).toNat 0])) ?_ ?_ (ro_addC (by simp))) ?_ (ro_addC (by simp))) (show 3 ≤ 100000 by decide) (Er.to (er_op (d1 := .n (vis [3, 3, 3, 2])) (d2 := .i (sp.getD 0 0)) (er_lst (vs := vis [3, 3, 3, 2]) ?_ (by decide)) ?_ (ro_ixIN h00.1 h00.2)) (by rw [q3]))) ?_ (((((e1.trans e2).trans e3).trans e4).trans e5).trans e6) hk
  · exact er_op (er_v rfl) (er_v rfl) (ro_ixC hF.1 (by rw [la]; exact hF.2) (by rw [la]; decide))
  · exact er_op (er_v rfl) (er_v rfl) (ro_ixC b2a (by rw [la]; exact b2b) (by rw [la]; decide))
  · exact er_op (er_v rfl) (er_v rfl) (ro_ixC b3a (by rw [la]; exact b3b) (by rw [la]; decide))
  · exact era_cons er_c (era_cons er_c (era_cons er_c (era_cons er_c era_nil)))
  · exact Er.to (er_op (er_var rfl hs) er_c (ro_ixI (by decide) (by simp; omega))) rfl
  · show Dd.s _ = Dd.s (S (inkT sp))
    unfold inkT
    rw [if_neg hb']

abbrev s__law_layer : Stmt := topS 30
theorem sc__law_layer : FnScope ["inks", "share", "spots", "wide", "text", "k"] ["inks", "share", "spots", "wide"] (defScope s__law_layer) := ⟨rfl, rfl, rfl, by decide +kernel, rfl, by decide +kernel, by decide +kernel⟩

def layC (ik : List Nat) (share : Int) (x : Int) : Nat := if decide (share ≤ x % 4) = true then ik.getD (x / 4 % (ik.length : Int)).toNat 0 else 45
def layT (ik : List Nat) (share : Int) (sp : List Int) (n : Nat) : List Nat := (List.range n).map fun k => layC ik share (sp.getD k 0)
theorem layT_next {ik : List Nat} {share : Int} {sp : List Int} {n : Nat} : layT ik share sp (n + 1) = layT ik share sp n ++ [layC ik share (sp.getD n 0)] := by
  unfold layT
  rw [List.range_succ, List.map_append]
  rfl
theorem layT_len {ik : List Nat} {share : Int} {sp : List Int} {n : Nat} : (layT ik share sp n).length = n := by simp [layT]
abbrev sp__law_layer (K : PySem.W.Frag) : Sp := spR K (fun a : List Nat × Int × List Int × Nat => (1 ≤ a.1.length ∧ a.1.length ≤ 1000) ∧ a.2.2.2 ≤ a.2.2.1.length ∧ a.2.2.2 ≤ 100) (fun a => [.s (S a.1), .i a.2.1, .l (vis a.2.2.1), .i (a.2.2.2 : Int)]) fun a => .s (S (layT a.1 a.2.1 a.2.2.1 a.2.2.2))
theorem has__law_layer (T : Txt K mg) (h : At K mg "_law_layer" s__law_layer ["inks", "share", "spots", "wide"]) : Has P w K mg base 1 "_law_layer" ["inks", "share", "spots", "wide"] (sp__law_layer K) := by
  refine h.hasR sc__law_layer (fun _ => rfl) fun f cdv A outer s H a vs Q E hr hp hv hk => ?_
  obtain ⟨ik, share, sp, wide⟩ := a
  obtain ⟨⟨h1, h1b⟩, h2, h3⟩ := hp
  replace h1 : 1 ≤ ik.length := h1
  replace h1b : ik.length ≤ 1000 := h1b
  replace h2 : wide ≤ sp.length := h2
  replace h3 : wide ≤ 100 := h3
  rcases hv with _ | ⟨rfl, _ | ⟨rfl, _ | ⟨hs, _ | ⟨rfl, _ | _⟩⟩⟩⟩
  rename_i xs
  replace hs : Is K H (.l (vis sp)) xs := hs
  have sc := sc__law_layer
  refine ⟨_, (pss_cons (ps_set (i := 4) sc.nd rfl (Or.inl rfl) (pe_strS [] (by rfl)))
    (pss_cons (ps_for PassesOwn.never rfl (pi_range1 (by rfl) T.b_range (pa_cons (pv 3) pa_nil)) (pg_name (i := 5) sc.nd rfl (Or.inl rfl)) (pss_one (ps_set (i := 4) sc.nd rfl (Or.inl rfl) (pe_op op_addS (pv 4) (pe_ix (ix_list_k (K := K)) (pe_lst (pa_cons (pe_strS [45] (by rfl)) (pa_cons (pe_ix ix_str (pv 0) (pe_op op_mod (pe_op op_fdiv (pe_callTy cr_int (by rfl) T.b_int (by decide +kernel) (pa_cons (pe_ix (ix_list_k (K := K)) (pv 2) (pv 5) (fun _ _ => rfl)) pa_nil)) pe_int) (pe_callB cr_lenStr (by rfl) T.b_len (by decide +kernel) (pa_cons (pv 0) pa_nil))) (fun _ _ => rfl)) pa_nil))) (pe_callTy cr_int (by rfl) T.b_int (by decide +kernel) (pa_cons (pe_cmpR op_ge (pe_op op_mod (pe_callTy cr_int (by rfl) T.b_int (by decide +kernel) (pa_cons (pe_ix (ix_list_k (K := K)) (pv 2) (pv 5) (fun _ _ => rfl)) pa_nil)) pe_int) (pv 1) (nomark _)) pa_nil)) (fun _ _ => rfl))))))
    (pss_one (ps_ret (pv 4))))), ?_⟩
  refine' a_setv (K := K) (x := .str (S [])) er_c ?g1
  intro H1 e1
  refine b_forR1 (K := K) (n := wide) ?_ (by omega) (fun i σ' H' => ∃ y, σ' = [some (.str (S ik)), some (.int share), some xs, some (.int (wide : Int)), some (.str (S (layT ik share sp i))), y] ∧ Ex H H') (fun H2 e2 => ⟨none, rfl, e1.trans e2⟩) ?_ ?_
  · walk_at "era"
  · rintro i σ' H' hi ⟨y, rfl, e⟩
    have hsi := hs.mono e
    have m0 : 0 ≤ sp.getD i 0 / 4 % (ik.length : Int) := Int.emod_nonneg _ (by omega)
    have m1 : sp.getD i 0 / 4 % (ik.length : Int) < (ik.length : Int) := Int.emod_lt_of_pos _ (by omega)
    have ex : Er K (tOp (rIxL K) (tVar 2) (tVar 5)) [some (.str (S ik)), some (.int share), some xs, some (.int (wide : Int)), some (.str (S (layT ik share sp i))), some (.int (i : Int))] H' (.i (sp.getD i 0)) := Er.to (er_op (er_var rfl hsi) (er_v rfl) (ro_ixI (i := (i : Int)) (by omega) (by omega))) (by rw [Int.toNat_natCast])
    refine a_setv1 (K := K) (x := .str (S (layT ik share sp i ++ [layC ik share (sp.getD i 0)]))) (er_op (d1 := .s (S (layT ik share sp i))) (d2 := .s (S [layC ik share (sp.getD i 0)])) (er_v rfl) (er_pickC (b := decide (sp.getD i 0 % 4 ≥ share)) er_c (er_op (d1 := .s (S ik)) (d2 := .i (sp.getD i 0 / 4 % (ik.length : Int))) (er_v rfl) (er_op (d1 := .i (sp.getD i 0 / 4)) (d2 := .i (ik.length : Int)) (er_op (er_cb (era_cons ex era_nil) rc_int) er_c (ro_div (by decide) (by decide))) (er_cb (era_cons (er_v rfl) era_nil) (rc_lenC (z := ik) (by omega))) (ro_mod (by omega))) (ro_ixC m0 m1 (by omega))) (er_op (er_op (er_cb (era_cons ex era_nil) rc_int) er_c (ro_mod (by decide))) (er_v rfl) ro_I0)) (ro_addC (by rw [layT_len]; simp; omega))) ?_
    intro H2 e2
    refine ⟨some (.int (i : Int)), ?_, e.trans e2⟩
    rw [layT_next]
    rfl
  · rintro σ' H' ⟨y, rfl, e⟩
    exact a_rete (K := K) (er_v rfl) rfl e hk
end
end Mi

set_option maxHeartbeats 4000000
namespace Mi
open PySem PySem.Spec PyProof.Rows L2 Evl
local macro_rules | `(tactic| walk_at "side") => `(tactic| (first | assumption | omega | exact rfl | decide | (simp only [List.length_cons, List.length_nil, List.length_map, List.length_append, List.length_replicate] <;> omega)))
local macro_rules | `(tactic| walk_at "ro") => `(tactic| (first
  | with_reducible exact ro_I0
  | with_reducible exact ro_1018
  | with_reducible exact ro_neC
  | with_reducible exact ro_eqC
  | with_reducible exact ro_neI
  | with_reducible exact ro_eqI
  | with_reducible exact ro_neB
  | with_reducible exact ro_eqB
  | ((with_reducible apply ro_mod); (walk_at "side"))
  | ((with_reducible apply ro_div) <;> (walk_at "side"))
  | ((with_reducible apply ro_divW) <;> (walk_at "side"))
  | with_reducible exact ro_1012
  | with_reducible exact ro_1015
  | ((with_reducible apply ro_mulL) <;> (walk_at "side"))
  | ((with_reducible apply ro_mulR) <;> (walk_at "side"))
  | ((with_reducible apply ro_addC); (walk_at "side"))
  | ((with_reducible apply ro_ixC) <;> (walk_at "side"))
  | ((with_reducible apply ro_ixI) <;> (walk_at "side"))
  | ((with_reducible apply ro_ixIN) <;> (walk_at "side"))
  | ((with_reducible apply ro_ixT2) <;> (walk_at "side"))
  | ((with_reducible apply ro_ixG) <;> (walk_at "side"))
  | ((with_reducible apply ro_eq); exact rfl)
  | ((with_reducible apply ro_ne); exact rfl)
  | with_reducible exact ro_isN
  | with_reducible exact ro_notN
  | with_reducible exact ro_eqL
  | with_reducible exact ro_neL
  | with_reducible exact ro_eqU
  | ((with_reducible apply ro_cat); (walk_at "side"))
  | with_reducible exact ro_inLi
  | with_reducible exact ro_inNi
  | with_reducible exact ro_inUi
  | ((with_reducible apply ro_inL) <;> (walk_at "side"))
  | ((with_reducible apply ro_inN) <;> (walk_at "side"))
  | ((with_reducible apply ro_inU) <;> (walk_at "side"))))
local macro_rules | `(tactic| walk_at "rc") => `(tactic| (first
  | with_reducible exact rc_int
  | with_reducible exact rc_intB
  | with_reducible exact rc_max2
  | ((with_reducible apply rc_lenC); (walk_at "side"))
  | with_reducible exact rc_lenI
  | with_reducible exact rc_lenT
  | with_reducible exact rc_lenIN
  | with_reducible exact rc_lenTN
  | with_reducible exact rc_lenL
  | with_reducible exact rc_lenN
  | with_reducible exact rc_lenU
  | with_reducible exact rc_listL
  | with_reducible exact rc_listU
  | with_reducible exact rc_tupL
  | with_reducible exact rc_tupN
  | ((with_reducible apply rc_isi_int); decide +kernel)
  | ((with_reducible apply rc_isi_str); decide +kernel)
  | ((with_reducible apply rc_isi_bl); decide +kernel)
  | ((with_reducible apply rc_isi_non); decide +kernel)
  | ((with_reducible apply rc_isi_u); decide +kernel)
  | ((with_reducible apply rc_isi_l); decide +kernel)))
local macro_rules | `(tactic| walk_at "er") => `(tactic| (first
  | ((with_reducible apply er_var); (exact rfl); assumption)
  | ((with_reducible apply er_v); exact rfl)
  | with_reducible exact er_c
  | ((with_reducible apply er_pick); (walk_at "er"); (walk_at "er"); (walk_at "er"))
  | ((with_reducible apply er_op); (walk_at "er"); (walk_at "er"); (walk_at "ro"))
  | ((with_reducible apply er_cb); (walk_at "era"); (walk_at "rc"))
  | ((with_reducible apply er_lst'); (walk_at "era"); (exact rfl); (walk_at "side"))
  | ((with_reducible apply er_tup'); (walk_at "era"); (exact rfl); (walk_at "side"))
  | ((with_reducible apply er_notV); (walk_at "er"))
  | ((with_reducible apply er_andV); (walk_at "er"); (intro _; (walk_at "er")))
  | ((with_reducible apply er_orV); (walk_at "er"); (intro _; (walk_at "er")))
  | ((with_reducible apply er_ite); (walk_at "et"); (intro _; (walk_at "er")); (intro _; (walk_at "er")))))
local macro_rules | `(tactic| walk_at "era") => `(tactic| (first
  | with_reducible exact era_nil
  | ((with_reducible apply era_cons); (walk_at "er"); (walk_at "era"))))
local macro_rules | `(tactic| walk_at "et") => `(tactic| (first
  | ((with_reducible apply et_an); (walk_at "et"); (intro _; (walk_at "et")))
  | ((with_reducible apply et_orr); (walk_at "et"); (intro _; (walk_at "et")))
  | ((with_reducible apply et_nt); (walk_at "et"))
  | ((with_reducible apply et1); (walk_at "er"))
  | ((with_reducible apply et2); (walk_at "er"))))

section
variable {P : Program} {w : World} {K : PySem.W.Frag} {mg : Str → Option Value} {base : Heap}
theorem txT_len {th : Th} (h : ThOk th) : (txT th).length ≤ 1000 := by
  cases th with
  | t l => exact h
  | c d => exact Nat.zero_le _
  | k ks => exact Nat.zero_le _
  | o => exact Nat.zero_le _
abbrev s_is_layer : Stmt := topS 6
theorem sc_is_layer : FnScope ["value", "sign"] ["value"] (defScope s_is_layer) := ⟨rfl, rfl, rfl, by decide +kernel, rfl, by decide +kernel, by decide +kernel⟩

def signOk (c : Nat) : Bool := decide (c = 45) || decide (c ∈ alls)
def layerOk (l : List Nat) : Bool := (decide (1 ≤ l.length) && decide (l.length ≤ 30)) && l.all signOk
abbrev sp_is_layer (K : PySem.W.Frag) (C : Addr) : Sp := spR K (fun th : Th => ThOk th) (fun th => [thD C th]) fun th => .b (isT th && layerOk (txT th))
theorem has_is_layer {C : Addr} (O : ObTy K C) (T : Txt K mg) (h : At K mg "is_layer" s_is_layer ["value"]) : Has P w K mg base 1 "is_layer" ["value"] (sp_is_layer K C) := by
  refine h.hasR sc_is_layer (fun _ => rfl) fun f cdv A outer s H th vs Q E hr hp hv hk => ?_
  replace hp : ThOk th := hp
  rcases hv with _ | ⟨hx, _ | _⟩
  rename_i x
  replace hx : Is K H (thD C th) x := hx
  have hal := txT_len hp
  have sc := sc_is_layer
  obtain ⟨_, gc_DASH⟩ := T.g_DASH
  obtain ⟨_, gc_MARKS⟩ := T.g_MARKS
  obtain ⟨_, gc_LONGEST⟩ := T.g_LONGEST
  refine ⟨_, (pss_cons (ps_if (pt_not (pt_val (pe_callB (cr_isi_k (K := K)) (by rfl) T.b_isinstance (by decide +kernel) (pa_cons (pv 0) (pa_cons (pe_bltn (v := .ty "str") (by rfl) T.b_str (by decide +kernel) rfl) pa_nil))))) (pss_one (ps_ret pe_bl)) pss_nil)
    (pss_cons (ps_if (pt_not (pt_chain op_le op_le pe_int (pe_callB cr_lenStr (by rfl) T.b_len (by decide +kernel) (pa_cons (pv 0) pa_nil)) (pe_glob (v := .int 30) rfl gc_LONGEST ⟨_, rfl⟩))) (pss_one (ps_ret pe_bl)) pss_nil)
    (pss_one (ps_ret (pe_callB (cr_all_k (K := K)) (by rfl) T.b_all (by decide +kernel) (pa_cons (pe_lc (own := [("sign", 1)]) (g := gName 1) (by rfl) sc.nd (pi_str (pv 0)) (blkOk_by (N := ["value", "sign"]) (sc := defScope s_is_layer) (own := [("sign", 1)]) (by decide +kernel)) (fun _ _ _ _ _ => (pg_name (i := 1) sc.nd rfl (Or.inl rfl))) (fun _ _ _ _ _ => pts_nil) (fun _ _ _ _ _ => (pe_or (pe_cmpR op_eq (pv 1) (pe_glob (v := .str (S [45])) rfl gc_DASH ⟨_, rfl⟩) (nomark _)) (pe_one (pe_cmpR op_inS (pv 1) (pe_glob (v := .str (S alls)) rfl gc_MARKS ⟨_, rfl⟩) rfl))))) pa_nil)))))), ?_⟩
  refine' a_when (K := K) (b := !isT th) (et_nt (et2 (er_cb (era_cons (er_var rfl hx) (era_cons er_c era_nil)) (rc_isiTh O hp)))) ?g1 ?g2
  case g1 =>
    intro hb H1 e1
    refine a_rete (K := K) er_c ?_ e1 hk
    have hb' : isT th = false := by simpa using hb
    show Dd.b false = Dd.b (isT th && layerOk (txT th))
    rw [hb']
    rfl
  case g2 =>
    intro hb0 H1 e1
    have hT : isT th = true := by simpa using hb0
    obtain rfl := is_text hT hx
    have hR : (Dd.b (isT th && layerOk (txT th))) = Dd.b (layerOk (txT th)) := by rw [hT]; rfl
    have hk : ∀ v H', Ex H H' → Is K H' (Dd.b (layerOk (txT th))) v → Q v H' := fun v H' e z => hk v H' e (by show Is K H' (Dd.b (isT th && layerOk (txT th))) v; rw [hR]; exact z)
    clear hR
    generalize txT th = a at *
    refine' a_when (K := K) (b := !(decide ((1 : Int) ≤ (a.length : Int)) && decide ((a.length : Int) ≤ 30))) (et_nt (et1 (er_chain er_c (er_cb (era_cons (er_v rfl) era_nil) (rc_lenC (z := a) (by omega))) ro_I0 (fun _ => er_c) fun _ => ro_I0))) ?g3 ?g4
    case g3 =>
      intro hb H2 e2
      refine a_rete (K := K) er_c ?_ (e1.trans e2) hk
      have e0 : layerOk a = false := by
        unfold layerOk
        have q : (decide (1 ≤ a.length) && decide (a.length ≤ 30)) = false := by
          simp at hb ⊢
          omega
        rw [q]
        rfl
      show Dd.b false = Dd.b (layerOk a)
      rw [e0]
    case g4 =>
      intro hb H2 e2
      refine' a_rete (K := K) (er_cb (era_cons (Er.to (c_lcS' (K := K) (z := a) (vs := [1]) (fun c => V.bl (signOk c)) (er_v rfl) (by omega) (fun _ => rfl) ?g5) ?g6) era_nil) rc_allBN) ?g7 (e1.trans e2) hk
      case g5 =>
        intro i c H3 e3 hi
        refine Er.to (er_orV (a := decide ([c] = [45])) (b := decide (c ∈ alls)) (er_op (er_v rfl) er_c ro_eqC) fun _ => er_op (d1 := .s (S [c])) (d2 := .s (S alls)) (er_v rfl) er_c (ro_inS (c := c))) ?_
        show Dd.b _ = Dd.b (signOk c)
        unfold signOk
        simp
      case g6 =>
        show Dd.n (a.map (V.bl ∘ signOk)) = Dd.n ((a.map signOk).map V.bl)
        rw [List.map_map]
      show Dd.b ((a.map signOk).all id) = Dd.b (layerOk a)
      unfold layerOk
      have q : (decide (1 ≤ a.length) && decide (a.length ≤ 30)) = true := by
        simp at hb ⊢
        omega
      rw [q, List.all_map]
      rfl

abbrev s_is_sheet : Stmt := topS 7
theorem sc_is_sheet : FnScope ["value"] ["value"] (defScope s_is_sheet) := ⟨rfl, rfl, rfl, by decide +kernel, rfl, by decide +kernel, by decide +kernel⟩

def sheetOk (l : List Nat) : Bool := layerOk l && !decide (45 ∈ l)
abbrev sp_is_sheet (K : PySem.W.Frag) (C : Addr) : Sp := spR K (fun th : Th => ThOk th) (fun th => [thD C th]) fun th => .b (isT th && sheetOk (txT th))
theorem has_is_sheet {C : Addr} (T : Txt K mg) (h : At K mg "is_sheet" s_is_sheet ["value"]) (C_is_layer : Has P w K mg base 1 "is_layer" ["value"] (sp_is_layer K C)) : Has P w K mg base 2 "is_sheet" ["value"] (sp_is_sheet K C) := by
  refine h.hasR sc_is_sheet (fun _ => rfl) fun f cdv A outer s H th vs Q E hr hp hv hk => ?_
  replace hp : ThOk th := hp
  rcases hv with _ | ⟨hx, _ | _⟩
  rename_i x
  replace hx : Is K H (thD C th) x := hx
  have sc := sc_is_sheet
  obtain ⟨_, gc_DASH⟩ := T.g_DASH
  refine ⟨_, (pss_one (ps_ret (pe_and (pe_callH C_is_layer (hr.mono (by decide)) (pa_cons (pv 0) pa_nil)) (pe_one (pe_cmpR op_notInS (pe_glob (v := .str (S [45])) rfl gc_DASH ⟨_, rfl⟩) (pv 0) rfl))))), ?_⟩
  refine a_rete (K := K) (er_andV (a := isT th && layerOk (txT th)) (b := !decide (45 ∈ txT th)) (er_call (K := K) th (era_cons (er_var rfl hx) era_nil) rfl hp) fun ha => ?_) ?_ (Ex.refl H) hk
  · have hT : isT th = true := by
      rw [Bool.and_eq_true] at ha
      exact ha.1
    obtain rfl := is_text hT hx
    exact er_op (d1 := .s (S [45])) (d2 := .s (S (txT th))) er_c (er_v rfl) (ro_niS (c := 45))
  · show Dd.b _ = Dd.b (isT th && (layerOk (txT th) && !decide (45 ∈ txT th)))
    rw [Bool.and_assoc]

abbrev s_is_name : Stmt := topS 21
theorem sc_is_name : FnScope ["value", "sign"] ["value"] (defScope s_is_name) := ⟨rfl, rfl, rfl, by decide +kernel, rfl, by decide +kernel, by decide +kernel⟩

def nameSign (c : Nat) : Bool := decide (c ∈ letters) || decide (c ∈ digits)
def nameOk (l : List Nat) : Bool := (decide (1 ≤ l.length) && decide (l.length ≤ 8)) && (decide (l.getD 0 0 ∈ letters) && l.all nameSign)
abbrev sp_is_name (K : PySem.W.Frag) (C : Addr) : Sp := spR K (fun th : Th => ThOk th) (fun th => [thD C th]) fun th => .b (isT th && nameOk (txT th))
theorem has_is_name {C : Addr} (O : ObTy K C) (T : Txt K mg) (h : At K mg "is_name" s_is_name ["value"]) : Has P w K mg base 1 "is_name" ["value"] (sp_is_name K C) := by
  refine h.hasR sc_is_name (fun _ => rfl) fun f cdv A outer s H th vs Q E hr hp hv hk => ?_
  replace hp : ThOk th := hp
  rcases hv with _ | ⟨hx, _ | _⟩
  rename_i x
  replace hx : Is K H (thD C th) x := hx
  have hal := txT_len hp
  have sc := sc_is_name
  obtain ⟨_, gc_LETTERS⟩ := T.g_LETTERS
  obtain ⟨_, gc_DIGITS⟩ := T.g_DIGITS
  obtain ⟨_, gc_LONGEST_NAME⟩ := T.g_LONGEST_NAME
  refine ⟨_, (pss_cons (ps_if (pt_not (pt_val (pe_callB (cr_isi_k (K := K)) (by rfl) T.b_isinstance (by decide +kernel) (pa_cons (pv 0) (pa_cons (pe_bltn (v := .ty "str") (by rfl) T.b_str (by decide +kernel) rfl) pa_nil))))) (pss_one (ps_ret pe_bl)) pss_nil)
    (pss_cons (ps_if (pt_not (pt_chain op_le op_le pe_int (pe_callB cr_lenStr (by rfl) T.b_len (by decide +kernel) (pa_cons (pv 0) pa_nil)) (pe_glob (v := .int 8) rfl gc_LONGEST_NAME ⟨_, rfl⟩))) (pss_one (ps_ret pe_bl)) pss_nil)
    (pss_one (ps_ret (pe_and (pe_cmpR op_inS (pe_ix ix_str (pv 0) pe_int (fun _ _ => rfl)) (pe_glob (v := .str (S letters)) rfl gc_LETTERS ⟨_, rfl⟩) rfl) (pe_one (pe_callB (cr_all_k (K := K)) (by rfl) T.b_all (by decide +kernel) (pa_cons (pe_lc (own := [("sign", 1)]) (g := gName 1) (by rfl) sc.nd (pi_str (pv 0)) (blkOk_by (N := ["value", "sign"]) (sc := defScope s_is_name) (own := [("sign", 1)]) (by decide +kernel)) (fun _ _ _ _ _ => (pg_name (i := 1) sc.nd rfl (Or.inl rfl))) (fun _ _ _ _ _ => pts_nil) (fun _ _ _ _ _ => (pe_or (pe_cmpR op_inS (pv 1) (pe_glob (v := .str (S letters)) rfl gc_LETTERS ⟨_, rfl⟩) rfl) (pe_one (pe_cmpR op_inS (pv 1) (pe_glob (v := .str (S digits)) rfl gc_DIGITS ⟨_, rfl⟩) rfl))))) pa_nil)))))))), ?_⟩
  refine' a_when (K := K) (b := !isT th) (et_nt (et2 (er_cb (era_cons (er_var rfl hx) (era_cons er_c era_nil)) (rc_isiTh O hp)))) ?g1 ?g2
  case g1 =>
    intro hb H1 e1
    refine a_rete (K := K) er_c ?_ e1 hk
    have hb' : isT th = false := by simpa using hb
    show Dd.b false = Dd.b (isT th && nameOk (txT th))
    rw [hb']
    rfl
  case g2 =>
    intro hb0 H1 e1
    have hT : isT th = true := by simpa using hb0
    obtain rfl := is_text hT hx
    have hR : (Dd.b (isT th && nameOk (txT th))) = Dd.b (nameOk (txT th)) := by rw [hT]; rfl
    have hk : ∀ v H', Ex H H' → Is K H' (Dd.b (nameOk (txT th))) v → Q v H' := fun v H' e z => hk v H' e (by show Is K H' (Dd.b (isT th && nameOk (txT th))) v; rw [hR]; exact z)
    clear hR
    generalize txT th = a at *
    refine' a_when (K := K) (b := !(decide ((1 : Int) ≤ (a.length : Int)) && decide ((a.length : Int) ≤ 8))) (et_nt (et1 (er_chain er_c (er_cb (era_cons (er_v rfl) era_nil) (rc_lenC (z := a) (by omega))) ro_I0 (fun _ => er_c) fun _ => ro_I0))) ?g3 ?g4
    case g3 =>
      intro hb H2 e2
      refine a_rete (K := K) er_c ?_ (e1.trans e2) hk
      have e0 : nameOk a = false := by
        unfold nameOk
        have q : (decide (1 ≤ a.length) && decide (a.length ≤ 8)) = false := by
          simp at hb ⊢
          omega
        rw [q]
        rfl
      show Dd.b false = Dd.b (nameOk a)
      rw [e0]
    case g4 =>
      intro hb H2 e2
      have q : (decide (1 ≤ a.length) && decide (a.length ≤ 8)) = true := by
        simp at hb ⊢
        omega
      have q1 : 1 ≤ a.length := by
        rw [Bool.and_eq_true] at q
        exact of_decide_eq_true q.1
      refine' a_rete (K := K) (er_andV (a := decide (a.getD 0 0 ∈ letters)) (b := (a.map nameSign).all id) (er_op (d1 := .s (S [a.getD 0 0])) (d2 := .s (S letters)) (er_sign (n := 0) (er_v rfl) er_c (by omega) (by omega)) er_c (ro_inS (c := a.getD 0 0))) fun _ => er_cb (era_cons (Er.to (c_lcS' (K := K) (z := a) (vs := [1]) (fun c => V.bl (nameSign c)) (er_v rfl) (by omega) (fun _ => rfl) ?g5) ?g6) era_nil) rc_allBN) ?g7 (e1.trans e2) hk
      case g5 =>
        intro i c H3 e3 hi
        exact er_orV (a := decide (c ∈ letters)) (b := decide (c ∈ digits)) (er_op (d1 := .s (S [c])) (d2 := .s (S letters)) (er_v rfl) er_c (ro_inS (c := c))) fun _ => er_op (d1 := .s (S [c])) (d2 := .s (S digits)) (er_v rfl) er_c (ro_inS (c := c))
      case g6 =>
        show Dd.n (a.map (V.bl ∘ nameSign)) = Dd.n ((a.map nameSign).map V.bl)
        rw [List.map_map]
      show Dd.b (decide (a.getD 0 0 ∈ letters) && (a.map nameSign).all id) = Dd.b (nameOk a)
      unfold nameOk
      rw [q, List.all_map]
      rfl

end
end Mi

set_option maxHeartbeats 4000000
namespace Mi
open PySem PySem.Spec PyProof.Rows L2 Evl
local macro_rules | `(tactic| walk_at "side") => `(tactic| (first | assumption | omega | exact rfl | decide | (simp only [List.length_cons, List.length_nil, List.length_map, List.length_append, List.length_replicate] <;> omega)))
local macro_rules | `(tactic| walk_at "ro") => `(tactic| (first
  | with_reducible exact ro_I0
  | with_reducible exact ro_1018
  | with_reducible exact ro_neC
  | with_reducible exact ro_eqC
  | with_reducible exact ro_neI
  | with_reducible exact ro_eqI
  | with_reducible exact ro_neB
  | with_reducible exact ro_eqB
  | ((with_reducible apply ro_mod); (walk_at "side"))
  | ((with_reducible apply ro_div) <;> (walk_at "side"))
  | ((with_reducible apply ro_divW) <;> (walk_at "side"))
  | with_reducible exact ro_1012
  | with_reducible exact ro_1015
  | ((with_reducible apply ro_mulL) <;> (walk_at "side"))
  | ((with_reducible apply ro_mulR) <;> (walk_at "side"))
  | ((with_reducible apply ro_addC); (walk_at "side"))
  | ((with_reducible apply ro_ixC) <;> (walk_at "side"))
  | ((with_reducible apply ro_ixI) <;> (walk_at "side"))
  | ((with_reducible apply ro_ixIN) <;> (walk_at "side"))
  | ((with_reducible apply ro_ixT2) <;> (walk_at "side"))
  | ((with_reducible apply ro_ixG) <;> (walk_at "side"))
  | ((with_reducible apply ro_eq); exact rfl)
  | ((with_reducible apply ro_ne); exact rfl)
  | with_reducible exact ro_isN
  | with_reducible exact ro_notN
  | with_reducible exact ro_eqL
  | with_reducible exact ro_neL
  | with_reducible exact ro_eqU
  | ((with_reducible apply ro_cat); (walk_at "side"))
  | with_reducible exact ro_inLi
  | with_reducible exact ro_inNi
  | with_reducible exact ro_inUi
  | ((with_reducible apply ro_inL) <;> (walk_at "side"))
  | ((with_reducible apply ro_inN) <;> (walk_at "side"))
  | ((with_reducible apply ro_inU) <;> (walk_at "side"))))
local macro_rules | `(tactic| walk_at "rc") => `(tactic| (first
  | with_reducible exact rc_int
  | with_reducible exact rc_intB
  | with_reducible exact rc_max2
  | ((with_reducible apply rc_lenC); (walk_at "side"))
  | with_reducible exact rc_lenI
  | with_reducible exact rc_lenT
  | with_reducible exact rc_lenIN
  | with_reducible exact rc_lenTN
  | with_reducible exact rc_lenL
  | with_reducible exact rc_lenN
  | with_reducible exact rc_lenU
  | with_reducible exact rc_listL
  | with_reducible exact rc_listU
  | with_reducible exact rc_tupL
  | with_reducible exact rc_tupN
  | ((with_reducible apply rc_isi_int); decide +kernel)
  | ((with_reducible apply rc_isi_str); decide +kernel)
  | ((with_reducible apply rc_isi_bl); decide +kernel)
  | ((with_reducible apply rc_isi_non); decide +kernel)
  | ((with_reducible apply rc_isi_u); decide +kernel)
  | ((with_reducible apply rc_isi_l); decide +kernel)))
local macro_rules | `(tactic| walk_at "er") => `(tactic| (first
  | ((with_reducible apply er_var); (exact rfl); assumption)
  | ((with_reducible apply er_v); exact rfl)
  | with_reducible exact er_c
  | ((with_reducible apply er_pick); (walk_at "er"); (walk_at "er"); (walk_at "er"))
  | ((with_reducible apply er_op); (walk_at "er"); (walk_at "er"); (walk_at "ro"))
  | ((with_reducible apply er_cb); (walk_at "era"); (walk_at "rc"))
  | ((with_reducible apply er_lst'); (walk_at "era"); (exact rfl); (walk_at "side"))
  | ((with_reducible apply er_tup'); (walk_at "era"); (exact rfl); (walk_at "side"))
  | ((with_reducible apply er_notV); (walk_at "er"))
  | ((with_reducible apply er_andV); (walk_at "er"); (intro _; (walk_at "er")))
  | ((with_reducible apply er_orV); (walk_at "er"); (intro _; (walk_at "er")))
  | ((with_reducible apply er_ite); (walk_at "et"); (intro _; (walk_at "er")); (intro _; (walk_at "er")))))
local macro_rules | `(tactic| walk_at "era") => `(tactic| (first
  | with_reducible exact era_nil
  | ((with_reducible apply era_cons); (walk_at "er"); (walk_at "era"))))
local macro_rules | `(tactic| walk_at "et") => `(tactic| (first
  | ((with_reducible apply et_an); (walk_at "et"); (intro _; (walk_at "et")))
  | ((with_reducible apply et_orr); (walk_at "et"); (intro _; (walk_at "et")))
  | ((with_reducible apply et_nt); (walk_at "et"))
  | ((with_reducible apply et1); (walk_at "er"))
  | ((with_reducible apply et2); (walk_at "er"))))

section
variable {P : Program} {w : World} {K : PySem.W.Frag} {mg : Str → Option Value} {base : Heap}
abbrev s_cells_of : Stmt := topS 8
theorem sc_cells_of : FnScope ["one", "cell", "sign"] ["one"] (defScope s_cells_of) := ⟨rfl, rfl, rfl, by decide +kernel, rfl, by decide +kernel, by decide +kernel⟩

def cellsM (a : List Nat) : List Int := (a.zipIdx.filter fun p => !decide (p.1 = 45)).map fun p => ((p.2 : Nat) : Int)
abbrev sp_cells (K : PySem.W.Frag) : Sp := spR K (fun a : List Nat => a.length ≤ 1000) (fun a => [.s (S a)]) fun a => .u (vis (cellsM a))
theorem has_cells_of (T : Txt K mg) (h : At K mg "cells_of" s_cells_of ["one"]) : Has P w K mg base 1 "cells_of" ["one"] (sp_cells K) := by
  refine h.hasR sc_cells_of (fun _ => rfl) fun f cdv A outer s H a vs Q E hr hp hv hk => ?_
  rcases hv with _ | ⟨rfl, _ | _⟩
  have sc := sc_cells_of
  obtain ⟨_, gc_DASH⟩ := T.g_DASH
  replace hp : a.length ≤ 1000 := hp
  refine ⟨_, (pss_one (ps_ret (pe_callTy (cr_tuple_k (K := K)) (by rfl) T.b_tuple (by decide +kernel) (pa_cons (pe_lc (own := [("cell", 1), ("sign", 2)]) (g := gTup K 2 (gCons (gName 1) (gCons (gName 2) gNil))) (by rfl) sc.nd (pi_enumS (by rfl) T.b_enumerate (pa_cons (pv 0) pa_nil)) (blkOk_by (N := ["one", "cell", "sign"]) (sc := defScope s_cells_of) (own := [("cell", 1), ("sign", 2)]) (by decide +kernel)) (fun _ _ _ _ _ => (pg_tup rfl (pgs_cons (pg_name (i := 1) sc.nd rfl (Or.inl rfl)) (pgs_cons (pg_name (i := 2) sc.nd rfl (Or.inl rfl)) pgs_nil)))) (fun _ _ _ _ _ => (pts_one (pt_cmpR op_ne (pv 2) (pe_glob (v := .str (S [45])) rfl gc_DASH ⟨_, rfl⟩) (nomark _)))) (fun _ _ _ _ _ => (pv 1))) pa_nil)))), ?_⟩
  refine' a_rete (K := K) ?g1 rfl (Ex.refl H) hk
  refine er_cb (K := K) (ds := [.n (vis (cellsM a))]) (era_cons (Er.to (c_lcE (K := K) (z := a) (vs := [1, 2]) (fun p => !decide (p.1 = 45)) (fun p => .int ((p.2 : Nat) : Int)) ?g2 (by omega) (fun _ _ => rfl) ?g3 ?g4) ?g5) era_nil) rc_tupN
  case g2 => walk_at "era"
  case g3 =>
    intro i c H1 e h1
    refine' Et.to (K := K) ?g6 ?g7
    case g6 => walk_at "et"
    simp
  case g4 =>
    intro i c H1 e h1 _
    walk_at "er"
  case g5 => rw [vis, cellsM, List.map_map]; rfl

abbrev s_is_stamp : Stmt := topS 22
theorem sc_is_stamp : FnScope ["value", "size"] ["value", "size"] (defScope s_is_stamp) := ⟨rfl, rfl, rfl, by decide +kernel, rfl, by decide +kernel, by decide +kernel⟩

def stampOk (l : List Nat) (size : Nat) : Bool := layerOk l && (decide ((l.length : Int) = (size : Int)) && decide (0 < ((vis (cellsM l)).length : Int)))
abbrev sp_is_stamp (K : PySem.W.Frag) : Sp := spR K (fun a : List Nat × Nat => a.1.length ≤ 1000) (fun a => [.s (S a.1), .i (a.2 : Int)]) fun a => .b (stampOk a.1 a.2)
theorem has_is_stamp {C : Addr} (T : Txt K mg) (h : At K mg "is_stamp" s_is_stamp ["value", "size"]) (C_is_layer : Has P w K mg base 1 "is_layer" ["value"] (sp_is_layer K C)) (C_cells_of : Has P w K mg base 1 "cells_of" ["one"] (sp_cells K)) : Has P w K mg base 2 "is_stamp" ["value", "size"] (sp_is_stamp K) := by
  refine h.hasR sc_is_stamp (fun _ => rfl) fun f cdv A outer s H a vs Q E hr hp hv hk => ?_
  obtain ⟨l, size⟩ := a
  replace hp : l.length ≤ 1000 := hp
  rcases hv with _ | ⟨rfl, _ | ⟨rfl, _ | _⟩⟩
  have sc := sc_is_stamp
  refine ⟨_, (pss_one (ps_ret (pe_and (pe_callH C_is_layer (hr.mono (by decide)) (pa_cons (pv 0) pa_nil)) (pe_and (pe_cmpR op_eq (pe_callB cr_lenStr (by rfl) T.b_len (by decide +kernel) (pa_cons (pv 0) pa_nil)) (pv 1) (nomark _)) (pe_one (pe_cmpR op_gt (pe_callB (cr_len_k (K := K)) (by rfl) T.b_len (by decide +kernel) (pa_cons (pe_callH C_cells_of (hr.mono (by decide)) (pa_cons (pv 0) pa_nil)) pa_nil)) pe_int (nomark _))))))), ?_⟩
  exact a_rete (K := K) (er_andV (er_call (K := K) (Th.t l) (era_cons (er_v rfl) era_nil) rfl hp) fun _ => er_andV (er_op (er_cb (era_cons (er_v rfl) era_nil) (rc_lenC (z := l) (by omega))) (er_v rfl) ro_eqI) fun _ => er_op (er_cb (era_cons (er_call (K := K) l (era_cons (er_v rfl) era_nil) rfl hp) era_nil) rc_lenU) er_c ro_I0) rfl (Ex.refl H) hk

theorem kit2 {n m1 m2 : String} {b1 b2 : Bool} (h1 : kitB n m1 = some b1) (h2 : kitB n m2 = some b2) : PySem.W.kitAny K (.type n) [.type m1, .type m2] = some (b1 || b2) := by
  have q1 : PySem.W.kitOne K (.type n) (.type m1) = some b1 := kit_ty h1
  have q2 : PySem.W.kitOne K (.type n) (.type m2) = some b2 := kit_ty h2
  unfold PySem.W.kitAny
  rw [q1]
  cases b1 with
  | true => rfl
  | false =>
    show PySem.W.kitAny K (.type n) [.type m2] = some b2
    unfold PySem.W.kitAny
    rw [q2]
    cases b2 <;> rfl
abbrev s_as_tuples : Stmt := topS 10
theorem sc_as_tuples : FnScope ["value", "item"] ["value"] (defScope s_as_tuples) := ⟨rfl, rfl, rfl, by decide +kernel, rfl, by decide +kernel, by decide +kernel⟩

abbrev sp_tup (K : PySem.W.Frag) (k : Nat) : Sp := spF K (fun d : Dd => okD d ∧ depD d < k) (fun d => [d]) tupD
theorem has_as_tuples (T : Txt K mg) (h : At K mg "as_tuples" s_as_tuples ["value"]) : ∀ k, Has P w K mg base k "as_tuples" ["value"] (sp_tup K k)
  | 0 => h.none fun d hp => by
    have := hp.2
    omega
  | k + 1 => by
    have C_as_tuples := has_as_tuples T h k
    refine h.hasF sc_as_tuples (fun _ => rfl) fun f cdv Ar outer s G A d vs Q E hr hp hA hv hk => ?_
    obtain ⟨hok, hdep⟩ := hp
    rcases hv with _ | ⟨hx, _ | _⟩
    rename_i x
    have sc := sc_as_tuples
    refine ⟨_, (pss_cons (ps_if (pt_val (pe_callB (cr_isiT_k (K := K)) (by rfl) T.b_isinstance (by decide +kernel) (pa_cons (pv 0) (pa_cons (pe_tup (pa_cons (pe_bltn (v := .ty "list") (by rfl) T.b_list (by decide +kernel) rfl) (pa_cons (pe_bltn (v := .ty "tuple") (by rfl) T.b_tuple (by decide +kernel) rfl) pa_nil))) pa_nil)))) (pss_one (ps_ret (pe_callTy (cr_tuple_k (K := K)) (by rfl) T.b_tuple (by decide +kernel) (pa_cons (pe_lc (own := [("item", 1)]) (g := gName 1) (by rfl) sc.nd (pi_seqV (K := K) (pv 0)) (blkOk_by (N := ["value", "item"]) (sc := defScope s_as_tuples) (own := [("item", 1)]) (by decide +kernel)) (fun _ _ _ _ _ => (pg_name (i := 1) sc.nd rfl (Or.inl rfl))) (fun _ _ _ _ _ => pts_nil) (fun _ _ _ _ _ => (pe_callH C_as_tuples (hr.mono (Nat.le_refl _)) (pa_cons (pv 1) pa_nil)))) pa_nil)))) pss_nil)
    (pss_one (ps_ret (pv 0)))), ?_⟩
    have seq : ∀ ds : List Dd, okL ds → depL ds < k → ds.length ≤ 1000 → Itf K (iSeqV K 0) [some x, none] G (ds.map id) → ∀ A1, Ex A A1 → (∀ v G' A', Step G A G' A' → Is K G' (.U (tupL ds)) v → Q v A') → ∀ N, tRet (tCB (rTupS K) (tCons (tLc (iSeqV K 0) (gName 1) tYes (tCall (sp_tup K k) [] E0 (tCons (tVar 1) tNil)) [1]) tNil)) { nx := N, rt := Q } [some x, none] A1 := by
      intro ds ho hd hz hit A1 e1 hk1 N
      refine s_ret (K := K) (G := G) (d' := .U (tupL ds)) (ef_cb (efa_cons (Ef.to (ef_lc (K := K) (its := ds) (inj := id) (vs := [1]) (fun _ => true) tupD hit (by omega) ?_) ?_) efa_nil) rf_tupN) (hA.trans e1) rfl fun v G' A' st z => hk1 v G' A' ((Step.on hA e1).trans st) z
      · intro i d' v G' A' eg ea hd' hv'
        have e0 := depL_at hd'
        exact ⟨[some x, some v], fun Q q => q, rfl, fun H2 e Q q => q H2 (Ex.refl _), fun _ => ef_call d' (efa_cons (ef_var rfl hv') efa_nil) rfl ⟨okL_at ho hd', by omega⟩⟩
      · rw [filt_true, tupL_map]
    match d, hok, hdep, hx, hk with
    | .L ds, hok, hdep, hx, hk =>
      have hd : depL ds + 1 < k + 1 := hdep
      exact a_when (K := K) (b := true || false) (et2 (er_isiT (.type "list") (er_var rfl (hx.mono hA)) (fun _ _ z => ty_Ld z) (kit2 (by decide +kernel) (by decide +kernel)))) (fun _ A1 e1 => seq ds hok.1 (by omega) hok.2 (by rw [List.map_id]; exact if_seqL rfl hx) A1 e1 hk _) fun hb => by cases hb
    | .U ds, hok, hdep, hx, hk =>
      have hd : depL ds + 1 < k + 1 := hdep
      exact a_when (K := K) (b := false || true) (et2 (er_isiT (.type "tuple") (er_var rfl (hx.mono hA)) (fun _ _ z => ty_Ud z) (kit2 (by decide +kernel) (by decide +kernel)))) (fun _ A1 e1 => seq ds hok.1 (by omega) hok.2 (by rw [List.map_id]; exact if_seqU rfl hx) A1 e1 hk _) fun hb => by cases hb
    | .v (.str z), hok, hdep, hx, hk =>
      exact a_when (K := K) (b := false || false) (et2 (er_isiT (.type "str") (er_var rfl (hx.mono hA)) (fun _ _ e => by rw [show _ = V.str z from e]; exact .base (.str z)) (kit2 (by decide +kernel) (by decide +kernel)))) (fun hb => by cases hb) fun _ A1 e1 => s_ret (K := K) (G := G) (ef_var rfl hx) (hA.trans e1) rfl fun v G' A' st q => hk v G' A' ((Step.on hA e1).trans st) q
    | .v (.int z), hok, hdep, hx, hk =>
      exact a_when (K := K) (b := false || false) (et2 (er_isiT (.type "int") (er_var rfl (hx.mono hA)) (fun _ _ e => by rw [show _ = V.int z from e]; exact .base (.int z)) (kit2 (by decide +kernel) (by decide +kernel)))) (fun hb => by cases hb) fun _ A1 e1 => s_ret (K := K) (G := G) (ef_var rfl hx) (hA.trans e1) rfl fun v G' A' st q => hk v G' A' ((Step.on hA e1).trans st) q
/-! ### check_pairs -/
abbrev s_check_pairs : Stmt := topS 23
theorem sc_check_pairs : FnScope ["pairs", "fitting", "earlier", "index", "name", "_"] ["pairs", "fitting"] (defScope s_check_pairs) := ⟨rfl, rfl, rfl, by decide +kernel, rfl, by decide +kernel, by decide +kernel⟩

structure PairsOk (n : Nat) (sts : List (List Nat × List Nat)) : Prop where
  nm : ∀ p ∈ sts, nameOk p.1 = true ∧ p.1.length ≤ 1000
  st : ∀ p ∈ sts, stampOk p.2 n = true ∧ p.2.length ≤ 1000
  di : (sts.map (·.1)).Nodup
  few : sts.length ≤ 1000
theorem not_before {sts : List (List Nat × List Nat)} {i : Nat} {p : List Nat × List Nat} (hd : (sts.map (·.1)).Nodup) (h : sts[i]? = some p) : inV (.str (S p.1)) ((sts.take i).map fun q => V.str (S q.1)) = false := by
  unfold inV
  rw [List.any_eq_false]
  intro x hx
  obtain ⟨q, hq, rfl⟩ := List.mem_map.mp hx
  obtain ⟨j, hj, hj2⟩ := List.getElem_of_mem hq
  rw [List.length_take] at hj
  rw [List.getElem_take] at hj2
  have hi := (List.getElem?_eq_some_iff.mp h)
  obtain ⟨hi1, hi2⟩ := hi
  intro e
  have e2 : q.1 = p.1 := by
    have : S q.1 = S p.1 := by simpa [eqV] using e
    exact S_inj this
  have hp := List.pairwise_iff_getElem.mp hd j i (by rw [List.length_map]; omega) (by rw [List.length_map]; exact hi1) (by omega)
  apply hp
  rw [List.getElem_map, List.getElem_map, hi2, hj2]
  exact e2
def fitB (n : Nat) (sts : List (List Nat × List Nat)) : List Bool := sts.map fun p => stampOk p.2 n
abbrev sp_check (K : PySem.W.Frag) : Sp := spF K (fun a : Nat × List (List Nat × List Nat) => PairsOk a.1 a.2) (fun a => [.U (prD a.2), .n ((fitB a.1 a.2).map V.bl)]) fun _ => .v .non
theorem has_check_pairs {C : Addr} (T : Txt K mg) (h : At K mg "check_pairs" s_check_pairs ["pairs", "fitting"]) (C_is_name : Has P w K mg base 1 "is_name" ["value"] (sp_is_name K C)) : Has P w K mg base 3 "check_pairs" ["pairs", "fitting"] (sp_check K) := by
  refine h.hasF sc_check_pairs (fun _ => rfl) fun f cdv Ar outer s G A a vs Q E hr hp hA hv hk => ?_
  obtain ⟨n, sts⟩ := a
  replace hp : PairsOk n sts := hp
  rcases hv with _ | ⟨hx, _ | ⟨⟨fp, rfl, hfp⟩, _ | _⟩⟩
  rename_i vp
  replace hx : Is K G (.U (prD sts)) vp := hx
  have sc := sc_check_pairs
  refine ⟨_, (pss_cons (ps_set (i := 2) sc.nd rfl (Or.inl rfl) (pe_lst pa_nil))
    (pss_one (ps_for PassesOwn.never rfl (pi_enumT (K := K) (by rfl) T.b_enumerate (pa_cons (pv 0) pa_nil)) (pg_tup rfl (pgs_cons (pg_name (i := 3) sc.nd rfl (Or.inl rfl)) (pgs_cons (pg_tup rfl (pgs_cons (pg_name (i := 4) sc.nd rfl (Or.inl rfl)) (pgs_cons (pg_name (i := 5) sc.nd rfl (Or.inl rfl)) pgs_nil))) pgs_nil))) (pss_cons (ps_if (pt_not (pt_val (pe_callH C_is_name (hr.mono (by decide)) (pa_cons (pv 4) pa_nil)))) (pss_one ps_never) pss_nil)
    (pss_cons (ps_if (pt_not (pt_val (pe_ix (ix_list_k (K := K)) (pv 1) (pv 3) (fun _ _ => rfl)))) (pss_one ps_never) pss_nil)
    (pss_cons (ps_if (pt_cmpR (op_in_k (K := K)) (pv 4) (pv 2) rfl) (pss_one ps_never) pss_nil)
    (pss_one (ps_expr (pe_bm_k (K := K) PySem.F.plainAttrs_list PySem.F.slot_list_append PySem.F.type_list_append mt_append (pv 2) (pa_cons (pv 4) pa_nil)))))))))), ?_⟩
  refine s_new hA fun l A1 hl0 hg0 s1 hl1 => ?_
  have flat : ∀ i, ((sts.take i).map fun q => V.str (S q.1)).all flatV = true := fun i => by
    rw [List.all_eq_true]
    intro x hx
    obtain ⟨q, _, rfl⟩ := List.mem_map.mp hx
    rfl
  refine f_for (K := K) (ds := (prD sts).zipIdx.map fun p => Dd.U [.i (p.2 : Int), p.1]) (if_enumT (ef_var rfl hx)) s1.v (fun i σ' G' A' => ∃ o1 o2 o3, σ' = [some vp, some (.ref fp), some (.ref l), o1, o2, o3] ∧ G' l = none ∧ A' l = some (.lst ((sts.take i).map fun q => V.str (S q.1))) ∧ Step G A G' A') (fun G2 A2 s2 => ⟨none, none, none, rfl, s2.f l (by rw [hl1]; simp) hg0, s2.a l _ hl1, s1.trans s2⟩) ?_ ?_
  · rintro G2 eg i d v σ' G' A' G3 A3 hd ⟨o1, o2, o3, rfl, g1, a1, st⟩ e1 e2 s3 hv
    rw [List.getElem?_map, List.getElem?_zipIdx, List.getElem?_map] at hd
    cases hi : sts[i]? with
    | none => rw [hi] at hd; cases hd
    | some p =>
      rw [hi] at hd
      have ed : Dd.U [.i (((0 + i : Nat)) : Int), .U [.s (S p.1), .s (S p.2)]] = d := Option.some.inj hd
      subst ed
      have hm := List.mem_of_getElem? hi
      obtain ⟨nm1, nm2⟩ := hp.nm p hm
      obtain ⟨st1, st2⟩ := hp.st p hm
      have hil := (List.getElem?_eq_some_iff.mp hi).1
      have few := hp.few
      refine g_nest s3.v hv fun v1 v2 z1 z2 => ?_
      obtain rfl : v1 = V.str (S p.1) := z1
      obtain rfl : v2 = V.str (S p.2) := z2
      have a3 := s3.a l _ a1
      have g3 := s3.f l (by rw [a1]; simp) g1
      refine a_when (K := K) (b := !nameOk p.1) (et_nt (et2 (er_call (Th.t p.1) (era_cons (er_v rfl) era_nil) rfl nm2))) (fun z => absurd z (by rw [nm1]; decide)) fun _ A4 e4 => ?_
      refine a_when (K := K) (b := !stampOk p.2 n) (et_nt (et2 (er_op (d1 := .n ((fitB n sts).map V.bl)) (er_var rfl ⟨fp, rfl, e4 fp _ (s3.a fp _ (st.v fp _ (st.g fp _ hfp)))⟩) (er_v rfl) (ro_ixN (i := ((0 + i : Nat) : Int)) (by omega) (by rw [Int.toNat_natCast, Nat.zero_add, List.getElem?_map]; unfold fitB; rw [List.getElem?_map, hi]; rfl))))) (fun z => absurd z (by rw [st1]; decide)) fun _ A5 e5 => ?_
      have a5 := e5 l _ (e4 l _ a3)
      refine a_when (K := K) (b := inV (.str (S p.1)) ((sts.take i).map fun q => V.str (S q.1))) (et1 (er_op (d2 := .n ((sts.take i).map fun q => V.str (S q.1))) (er_v rfl) (er_var rfl ⟨l, rfl, a5⟩) (ro_inN (neg := false) rfl (flat i)))) (fun z => absurd z (by rw [not_before hp.di hi]; decide)) fun _ A6 e6 => ?_
      have s6 := s3.trans (Step.on s3.v ((e4.trans e5).trans e6))
      refine s_app (G := G3) (e6 l _ a5) g3 (s3.v.trans ((e4.trans e5).trans e6)) (er_v rfl) (ef_flat (er_v (x := .str (S p.1)) rfl)) (by rw [List.length_map, List.length_take]; omega) fun w7 G7 A7 s7 z7 g7 a7 => ?_
      obtain rfl : w7 = V.str (S p.1) := z7
      refine ⟨G7, ⟨_, _, _, rfl, g7, ?_, ?_⟩, ?_, ?_⟩
      · rw [upd_same, map_take_next hi]
      · exact ((st.trans s6).trans s7).grow hl0 g7
      · exact e1.trans (s6.g.trans s7.g)
      · exact s7.v.mut g7
  · rintro σ' G' A' e1 e2 ⟨o1, o2, o3, rfl, g1, a1, st⟩
    exact hk .non G' A' st rfl
/-! ### Stock(..) -/
abbrev s_Stock___init__ : Stmt := inClass (topS 25) 0
theorem sc_Stock___init__ : FnScope ["self", "size", "stamps", "pairs", "name", "stamp"] ["self", "size", "stamps"] (defScope s_Stock___init__) := ⟨rfl, rfl, rfl, by decide +kernel, rfl, by decide +kernel, by decide +kernel⟩

structure StTxt (K : PySem.W.Frag) (mg : Str → Option Value) (C : Addr) : Prop where
  cl : Cls K C
  nS : NoAttr K C "size"
  nT : NoAttr K C "stamps"
  nO : NoAttr K C "_stamp_of"
  mgC : mg "Stock" = some (.ref C)
def spInit (K : PySem.W.Frag) (C : Addr) : Sp := fun vs A Q _ => ∃ (x : Addr) (n : Nat) (sts : List (List Nat × List Nat)) (w : V), vs = [.ref x, .int (n : Int), w] ∧ PairsOk n sts ∧ ∃ dx G A0, Ex G A0 ∧ Ex A0 A ∧ A0 x = none ∧ A x = some (.ins C dx []) ∧ Is K G (.L (stD sts)) w ∧ ∀ G' A', Step G A0 G' A' → Is K G' (stockD K C (n : Int) sts) (.ref x) → Q .non A'
theorem stD_ok {sts : List (List Nat × List Nat)} (h : sts.length ≤ 1000) : okD (.L (stD sts)) ∧ depD (.L (stD sts)) < 3 ∧ tupD (.L (stD sts)) = .U (prD sts) := by
  have e1 : ∀ sts : List (List Nat × List Nat), okL (stD sts) ∧ depL (stD sts) ≤ 1 ∧ tupL (stD sts) = prD sts := by
    intro sts
    induction sts with
    | nil => exact ⟨trivial, Nat.zero_le _, rfl⟩
    | cons p r ih =>
      obtain ⟨i1, i2, i3⟩ := ih
      refine ⟨⟨⟨⟨trivial, trivial, trivial⟩, by simp⟩, i1⟩, ?_, ?_⟩
      · show max (depD (.L [.s (S p.1), .s (S p.2)])) (depL (stD r)) ≤ 1
        have : depD (.L [.s (S p.1), .s (S p.2)]) = 1 := rfl
        omega
      · show tupD (.L [.s (S p.1), .s (S p.2)]) :: tupL (stD r) = Dd.U [.s (S p.1), .s (S p.2)] :: prD r
        rw [i3]
        rfl
  obtain ⟨i1, i2, i3⟩ := e1 sts
  refine ⟨⟨i1, by rw [stD_len]; exact h⟩, ?_, ?_⟩
  · show depL (stD sts) + 1 < 3
    omega
  · show Dd.U (tupL (stD sts)) = _
    rw [i3]
theorem ok_init {f C : Addr} {fd : FuncData} (F : Fun K "__init__" "Stock.__init__" s_Stock___init__ f fd) (T : Txt K mg) (TS : StTxt K mg C) (C_as_tuples : Has P w K mg base 3 "as_tuples" ["value"] (sp_tup K 3)) (C_is_stamp : Has P w K mg base 2 "is_stamp" ["value", "size"] (sp_is_stamp K)) (C_check_pairs : Has P w K mg base 3 "check_pairs" ["pairs", "fitting"] (sp_check K)) : FnOk P w K mg base CX0 4 f fd ["self", "size", "stamps"] (spInit K C) := by
  have sc := sc_Stock___init__
  refine F.ok sc (fun vs H Q E h => ?_) (fun cdv Ar outer s A vs Q E hr h => ?_)
  · obtain ⟨x, n, sts, w, rfl, _⟩ := h
    rfl
  obtain ⟨x, n, sts, wv, rfl, hp, dx, G, A0, hGA, hA, hx0, hx, hw, hk⟩ := h
  refine ⟨_, (pss_cons (ps_set (i := 3) sc.nd rfl (Or.inl rfl) (pe_callH C_as_tuples (hr.mono (by decide)) (pa_cons (pv 2) pa_nil)))
    (pss_cons (ps_expr (pe_callH C_check_pairs (hr.mono (by decide)) (pa_cons (pv 3) (pa_cons (pe_lc (own := [("name", 4), ("stamp", 5)]) (g := gTup K 2 (gCons (gName 4) (gCons (gName 5) gNil))) (by rfl) sc.nd (pi_tup_k (K := K) (pv 3)) (blkOk_by (N := ["self", "size", "stamps", "pairs", "name", "stamp"]) (sc := defScope s_Stock___init__) (own := [("name", 4), ("stamp", 5)]) (by decide +kernel)) (fun _ _ _ _ _ => (pg_tup rfl (pgs_cons (pg_name (i := 4) sc.nd rfl (Or.inl rfl)) (pgs_cons (pg_name (i := 5) sc.nd rfl (Or.inl rfl)) pgs_nil)))) (fun _ _ _ _ _ => pts_nil) (fun _ _ _ _ _ => (pe_callH C_is_stamp (hr.mono (by decide)) (pa_cons (pv 5) (pa_cons (pv 1) pa_nil))))) pa_nil))))
    (pss_cons (ps_fld (pv 0) (pv 1) rfl)
    (pss_cons (ps_fld (pv 0) (pv 3) rfl)
    (pss_one (ps_fld (pv 0) (pe_dc (own := [("name", 4), ("stamp", 5)]) (g := gTup K 2 (gCons (gName 4) (gCons (gName 5) gNil))) (by rfl) sc.nd (pi_tup_k (K := K) (pv 3)) (blkOk_by (N := ["self", "size", "stamps", "pairs", "name", "stamp"]) (sc := defScope s_Stock___init__) (own := [("name", 4), ("stamp", 5)]) (by decide +kernel)) (fun _ _ _ _ _ => (pg_tup rfl (pgs_cons (pg_name (i := 4) sc.nd rfl (Or.inl rfl)) (pgs_cons (pg_name (i := 5) sc.nd rfl (Or.inl rfl)) pgs_nil)))) (fun _ _ _ _ _ => pts_nil) (fun _ _ _ _ _ => (pv 4)) (fun _ _ _ _ _ => (pv 5))) rfl)))))), ?_⟩
  obtain ⟨k1, k2, k3⟩ := stD_ok hp.few
  have s0 : Step G A0 G A := .on hGA hA
  have gx : G x = none := ex_out hGA hx0
  refine s_set (K := K) (d := .U (prD sts)) (Ef.to (ef_call (Dd.L (stD sts)) (efa_cons (ef_var rfl hw) efa_nil) rfl ⟨k1, k2⟩) k3) s0.v fun vp G1 A1 s1 hvp => ?_
  have hfit : Ef K (tLc (iTup K (tVar 3)) (gTup K 2 (gCons (gName 4) (gCons (gName 5) gNil))) tYes (tCall (sp_is_stamp K) [] E0 (tCons (tVar 5) (tCons (tVar 1) tNil))) [4, 5]) [some (.ref x), some (.int (n : Int)), some wv, some vp, none, none] G1 (.n ((fitB n sts).map V.bl)) := by
    refine Ef.as (ef_lc (K := K) (its := sts) (inj := fun p => Dd.U [.s (S p.1), .s (S p.2)]) (fun _ => true) (fun p => Dd.b (stampOk p.2 n)) (if_tup (ef_var (i := 3) rfl hvp)) (by have := hp.few; omega) (fun i p v G' A' eg ea hi hv => ?_)) ?_
    · obtain ⟨T1, us, rfl, hT, y1, r1, rfl, hy1, y2, r2, rfl, hy2, hr2⟩ := hv
      have er : r2 = [] := hr2
      subst er
      obtain rfl : y1 = V.str (S p.1) := hy1
      obtain rfl : y2 = V.str (S p.2) := hy2
      exact ⟨_, fun Q q => ⟨T1, _, rfl, ex_t ea hT, rfl, _, _, rfl, _, _, rfl, rfl, q⟩, rfl, fun H2 e Q q => q H2 (Ex.refl _), fun _ => ef_flat (er_call (p.2, n) (era_cons (er_v rfl) (era_cons (er_v rfl) era_nil)) rfl (hp.st p (List.mem_of_getElem? hi)).2)⟩
    · intro H v z
      rw [filt_true] at z
      refine Is.N2n ?_
      unfold fitB
      rw [List.map_map, List.map_map]
      exact z
  refine s_drop (K := K) (ef_call (n, sts) (efa_cons (ef_var rfl hvp) (efa_cons hfit efa_nil)) rfl hp) s1.v fun v2 G2 A2 s2 _ => ?_
  have x2 : A2 x = some (.ins C dx []) := s2.a x _ (s1.a x _ hx)
  have g2 : G2 x = none := s2.f x (by rw [s1.a x _ hx]; simp) (s1.f x (by rw [hx]; simp) gx)
  have S2 : Step G A0 G2 A2 := (s0.trans s1).trans s2
  replace hvp := hvp.mono s2.g
  -- self.size = size
  refine ⟨_, rfl, _, rfl, x, C, dx, [], rfl, x2, TS.cl, TS.nS, by decide, ?_⟩
  have S3 := S2.grow (o := .ins C dx (putF "size" (.int (n : Int)) [])) hx0 g2
  -- self.stamps = pairs
  refine ⟨_, rfl, _, rfl, x, C, dx, _, rfl, upd_same, TS.cl, TS.nT, by show 1 < 1000; decide, ?_⟩
  obtain ⟨ps, vs2, rfl, hps, hE⟩ := hvp
  have hvp : Is K G2 (.U (prD sts)) (.ref ps) := ⟨ps, vs2, rfl, hps, hE⟩
  rw [upd_upd]
  have S4 := S2.grow (o := .ins C dx (putF "stamps" (.ref ps) (putF "size" (.int (n : Int)) []))) hx0 g2
  -- self._stamp_of = {..}
  show sFld K (tVar 0) (tDc (iTup K (tVar 3)) (gTup K 2 (gCons (gName 4) (gCons (gName 5) gNil))) tYes (tVar 4) (tVar 5) [4, 5]) "_stamp_of" { nx := fun _ H' => Q .non H', rt := Q } [some (.ref x), some (.int (n : Int)), some wv, some (.ref ps), none, none] _
  unfold sFld
  show tDc (iTup K (tVar 3)) (gTup K 2 (gCons (gName 4) (gCons (gName 5) gNil))) tYes (tVar 4) (tVar 5) [4, 5] [some (.ref x), some (.int (n : Int)), some wv, some (.ref ps), none, none] _ _
  refine ef_dc (K := K) (σ := [some (.ref x), some (.int (n : Int)), some wv, some (.ref ps), none, none]) (its := sts) (inj := fun p => Dd.U [.s (S p.1), .s (S p.2)]) (G := G2) (if_tup (ef_var (i := 3) rfl hvp)) (by have := hp.few; omega) (fun i p v G' A' e1 e2 hi hv => ?_) G2 _ (Ex.refl _) S4.v _ fun vd G5 A5 s5 hvd => ?_
  · obtain ⟨T1, us, rfl, hT, y1, r1, rfl, hy1, y2, r2, rfl, hy2, hr2⟩ := hv
    have er : r2 = [] := hr2
    subst er
    obtain rfl : y1 = V.str (S p.1) := hy1
    obtain rfl : y2 = V.str (S p.2) := hy2
    exact ⟨_, fun Q q => ⟨T1, _, rfl, ex_t e2 hT, rfl, _, _, rfl, _, _, rfl, rfl, q⟩, rfl, .inr (S p.1), .str (S p.2), er_v rfl, er_v rfl⟩
  obtain ⟨dd, kvs, rfl, hdd⟩ := hvd
  have x5 : A5 x = some (.ins C dx (putF "stamps" (.ref ps) (putF "size" (.int (n : Int)) []))) := s5.a x _ upd_same
  have g5 : G5 x = none := s5.f x (by rw [upd_same]; simp) g2
  refine ⟨_, rfl, x, C, dx, _, rfl, x5, TS.cl, TS.nO, ?_, ?_⟩
  · have : (putF "stamps" (V.ref ps) (putF "size" (.int (n : Int)) [])).length = 2 := by
      show (if ("size" : Str) = "stamps" then _ else _ : List (Str × V)).length = 2
      rw [if_neg ne_ss]
      rfl
    rw [this]
    decide
  have S5 := (S4.trans s5).grow (o := .ins C dx (stFlds (n : Int) ps dd)) hx0 g5
  refine hk _ _ (S5.seal hx0 g5 upd_same) ⟨x, dx, ps, dd, kvs, rfl, upd_same, ?_, ?_⟩
  · exact (hvp.mono s5.g).mono (Ex.new g5)
  · exact Ex.new g5 dd _ hdd
end
end Mi

set_option maxHeartbeats 4000000
namespace Mi
open PySem PySem.Spec PyProof.Rows L2 Evl
local macro_rules | `(tactic| walk_at "side") => `(tactic| (first | assumption | omega | exact rfl | decide | (simp only [List.length_cons, List.length_nil, List.length_map, List.length_append, List.length_replicate] <;> omega)))
local macro_rules | `(tactic| walk_at "ro") => `(tactic| (first
  | with_reducible exact ro_I0
  | with_reducible exact ro_1018
  | with_reducible exact ro_neC
  | with_reducible exact ro_eqC
  | with_reducible exact ro_neI
  | with_reducible exact ro_eqI
  | with_reducible exact ro_neB
  | with_reducible exact ro_eqB
  | ((with_reducible apply ro_mod); (walk_at "side"))
  | ((with_reducible apply ro_div) <;> (walk_at "side"))
  | ((with_reducible apply ro_divW) <;> (walk_at "side"))
  | with_reducible exact ro_1012
  | with_reducible exact ro_1015
  | ((with_reducible apply ro_mulL) <;> (walk_at "side"))
  | ((with_reducible apply ro_mulR) <;> (walk_at "side"))
  | ((with_reducible apply ro_addC); (walk_at "side"))
  | ((with_reducible apply ro_ixC) <;> (walk_at "side"))
  | ((with_reducible apply ro_ixI) <;> (walk_at "side"))
  | ((with_reducible apply ro_ixIN) <;> (walk_at "side"))
  | ((with_reducible apply ro_ixT2) <;> (walk_at "side"))
  | ((with_reducible apply ro_ixG) <;> (walk_at "side"))
  | ((with_reducible apply ro_eq); exact rfl)
  | ((with_reducible apply ro_ne); exact rfl)
  | with_reducible exact ro_isN
  | with_reducible exact ro_notN
  | with_reducible exact ro_eqL
  | with_reducible exact ro_neL
  | with_reducible exact ro_eqU
  | ((with_reducible apply ro_cat); (walk_at "side"))
  | with_reducible exact ro_inLi
  | with_reducible exact ro_inNi
  | with_reducible exact ro_inUi
  | ((with_reducible apply ro_inL) <;> (walk_at "side"))
  | ((with_reducible apply ro_inN) <;> (walk_at "side"))
  | ((with_reducible apply ro_inU) <;> (walk_at "side"))))
local macro_rules | `(tactic| walk_at "rc") => `(tactic| (first
  | with_reducible exact rc_int
  | with_reducible exact rc_intB
  | with_reducible exact rc_max2
  | ((with_reducible apply rc_lenC); (walk_at "side"))
  | with_reducible exact rc_lenI
  | with_reducible exact rc_lenT
  | with_reducible exact rc_lenIN
  | with_reducible exact rc_lenTN
  | with_reducible exact rc_lenL
  | with_reducible exact rc_lenN
  | with_reducible exact rc_lenU
  | with_reducible exact rc_listL
  | with_reducible exact rc_listU
  | with_reducible exact rc_tupL
  | with_reducible exact rc_tupN
  | ((with_reducible apply rc_isi_int); decide +kernel)
  | ((with_reducible apply rc_isi_str); decide +kernel)
  | ((with_reducible apply rc_isi_bl); decide +kernel)
  | ((with_reducible apply rc_isi_non); decide +kernel)
  | ((with_reducible apply rc_isi_u); decide +kernel)
  | ((with_reducible apply rc_isi_l); decide +kernel)))
local macro_rules | `(tactic| walk_at "er") => `(tactic| (first
  | ((with_reducible apply er_var); (exact rfl); assumption)
  | ((with_reducible apply er_v); exact rfl)
  | with_reducible exact er_c
  | ((with_reducible apply er_pick); (walk_at "er"); (walk_at "er"); (walk_at "er"))
  | ((with_reducible apply er_op); (walk_at "er"); (walk_at "er"); (walk_at "ro"))
  | ((with_reducible apply er_cb); (walk_at "era"); (walk_at "rc"))
  | ((with_reducible apply er_lst'); (walk_at "era"); (exact rfl); (walk_at "side"))
  | ((with_reducible apply er_tup'); (walk_at "era"); (exact rfl); (walk_at "side"))
  | ((with_reducible apply er_notV); (walk_at "er"))
  | ((with_reducible apply er_andV); (walk_at "er"); (intro _; (walk_at "er")))
  | ((with_reducible apply er_orV); (walk_at "er"); (intro _; (walk_at "er")))
  | ((with_reducible apply er_ite); (walk_at "et"); (intro _; (walk_at "er")); (intro _; (walk_at "er")))))
local macro_rules | `(tactic| walk_at "era") => `(tactic| (first
  | with_reducible exact era_nil
  | ((with_reducible apply era_cons); (walk_at "er"); (walk_at "era"))))
local macro_rules | `(tactic| walk_at "et") => `(tactic| (first
  | ((with_reducible apply et_an); (walk_at "et"); (intro _; (walk_at "et")))
  | ((with_reducible apply et_orr); (walk_at "et"); (intro _; (walk_at "et")))
  | ((with_reducible apply et_nt); (walk_at "et"))
  | ((with_reducible apply et1); (walk_at "er"))
  | ((with_reducible apply et2); (walk_at "er"))))

section
variable {P : Program} {w : World} {K : PySem.W.Frag} {mg : Str → Option Value} {base : Heap}
abbrev s__law_rank : Stmt := topS 34
theorem sc__law_rank : FnScope ["thing", "rank", "sign"] ["thing"] (defScope s__law_rank) := ⟨rfl, rfl, rfl, by decide +kernel, rfl, by decide +kernel, by decide +kernel⟩

def lenB (l : List Nat) (n : Nat) : Bool := decide (1 ≤ l.length) && decide (l.length ≤ n)
def rankT (l : List Nat) : Int := if (lenB l 30 && l.all fun c => decide (c ∈ signs)) = true then (if 45 ∈ l then 1 else 2) else 0
def rankM (th : Th) : Int := if isT th = true then rankT (txT th) else 0
abbrev sp__law_rank (K : PySem.W.Frag) (C : Addr) : Sp := spR K (fun th : Th => ThOk th) (fun th => [thD C th]) fun th => .i (rankM th)
/-- not isinstance(thing, str) or len(thing) < 1 or len(thing) > n -/
theorem et_unfit {C : Addr} (O : ObTy K C) {th : Th} {σ : L2.St} {H : Hp} {x : V} {n : Nat} {tv : TE} (hp : ThOk th) (hv : σ[0]? = some (some x)) (hx : Is K H (thD C th) x) (htv : tv = tVar 0) :
    Et K (tOr (tNot (tB (tCB (rIsi K) (tCons tv (tCons (tC (.ty "str")) tNil))))) (tOr (tTest (tOp (rI0 fun i j => .bl (decide (i < j))) (tCB rLenStr (tCons tv tNil)) (tC (.int 1)))) (tTest (tOp (rI0 fun i j => .bl (decide (i > j))) (tCB rLenStr (tCons tv tNil)) (tC (.int (n : Int))))))) σ H (!(isT th && lenB (txT th) n)) := by
  subst htv
  refine Et.to (et_orr (a := !isT th) (b := !lenB (txT th) n) (et_nt (et2 (er_cb (era_cons (er_var hv hx) (era_cons er_c era_nil)) (rc_isiTh O hp)))) fun hb => ?_) (by cases isT th <;> cases lenB (txT th) n <;> rfl)
  have hT : isT th = true := by simpa using hb
  obtain rfl := is_text hT hx
  have hal := txT_len hp
  refine Et.to (et_orr (et1 (er_op (er_cb (era_cons (er_v hv) era_nil) (rc_lenC (z := txT th) (by omega))) er_c ro_I0)) fun _ => et1 (er_op (er_cb (era_cons (er_v hv) era_nil) (rc_lenC (z := txT th) (by omega))) er_c ro_I0)) ?_
  unfold lenB
  by_cases h1 : 1 ≤ (txT th).length <;> by_cases h2 : (txT th).length ≤ n <;> simp [h1, h2] <;> omega
theorem has__law_rank {C : Addr} (O : ObTy K C) (T : Txt K mg) (h : At K mg "_law_rank" s__law_rank ["thing"]) : Has P w K mg base 1 "_law_rank" ["thing"] (sp__law_rank K C) := by
  refine h.hasR sc__law_rank (fun _ => rfl) fun f cdv A outer s H th vs Q E hr hp hv hk => ?_
  replace hp : ThOk th := hp
  rcases hv with _ | ⟨hx, _ | _⟩
  rename_i x
  replace hx : Is K H (thD C th) x := hx
  have hal := txT_len hp
  have sc := sc__law_rank
  refine ⟨_, (pss_cons (ps_if (PW.pt (pw_or (pt_not (pt_val (pe_callB (cr_isi_k (K := K)) (by rfl) T.b_isinstance (by decide +kernel) (pa_cons (pv 0) (pa_cons (pe_bltn (v := .ty "str") (by rfl) T.b_str (by decide +kernel) rfl) pa_nil))))) (pw_or (pt_cmpR op_lt (pe_callB cr_lenStr (by rfl) T.b_len (by decide +kernel) (pa_cons (pv 0) pa_nil)) pe_int (nomark _)) (pw_or1 (pt_cmpR op_gt (pe_callB cr_lenStr (by rfl) T.b_len (by decide +kernel) (pa_cons (pv 0) pa_nil)) pe_int (nomark _)))))) (pss_one (ps_ret pe_int)) pss_nil)
    (pss_cons (ps_set (i := 1) sc.nd rfl (Or.inl rfl) pe_int)
    (pss_cons (ps_for PassesOwn.never rfl (pi_str (pv 0)) (pg_name (i := 2) sc.nd rfl (Or.inl rfl)) (pss_cons (ps_if (pt_cmpR op_notInS (pv 2) (pe_strS [45, 46, 97, 98, 99, 100, 101, 102, 103, 104, 105, 106, 107, 108, 109, 110, 111, 112, 113, 114, 115, 116, 117, 118, 119, 120, 121, 122] (by rfl)) rfl) (pss_one (ps_ret pe_int)) pss_nil)
    (pss_one (ps_if (pt_cmpR op_eq (pv 2) (pe_strS [45] (by rfl)) (nomark _)) (pss_one (ps_set (i := 1) sc.nd rfl (Or.inl rfl) pe_int)) pss_nil))))
    (pss_one (ps_ret (pv 1)))))), ?_⟩
  refine a_when (K := K) (et_unfit (n := 30) O hp rfl hx rfl) (fun hb H1 e1 => ?_) fun hb0 H1 e1 => ?_
  · refine a_rete (K := K) er_c ?_ e1 hk
    show Dd.i 0 = Dd.i (rankM th)
    unfold rankM rankT
    cases hT : isT th with
    | false => rfl
    | true =>
      rw [hT] at hb
      have h2 : lenB (txT th) 30 = false := by simpa using hb
      rw [if_pos rfl, h2]
      rfl
  have hb1 : isT th = true ∧ lenB (txT th) 30 = true := by simpa using hb0
  obtain ⟨hT, hL⟩ := hb1
  obtain rfl := is_text hT hx
  have hR : rankM th = rankT (txT th) := if_pos hT
  have hk : ∀ v H', Ex H H' → Is K H' (Dd.i (rankT (txT th))) v → Q v H' := fun v H' e z => hk v H' e (by show Is K H' (Dd.i (rankM th)) v; rw [hR]; exact z)
  clear hR
  generalize txT th = a at *
  refine a_setv (K := K) (x := .int 2) er_c fun H2 e2 => ?_
  refine b_for (K := K) (G := H2) (ds := a.map fun c => Dd.s (S [c])) (if_text (er_v rfl)) (Ex.refl H2) (fun i σ' G' A' => ∃ y, σ' = [some (.str (S a)), some (.int (if 45 ∈ a.take i then 1 else 2)), y] ∧ Ex H2 A' ∧ ((a.take i).all fun c => decide (c ∈ signs)) = true) (fun G1 A1 s1 => ⟨none, rfl, s1.a, rfl⟩) ?_ ?_
  · rintro G1 eg i d v σ' G' A' G2 A2 hd ⟨y, rfl, ea, hM⟩ eg1 ev1 s2 hv2
    obtain ⟨c, hc, rfl⟩ : ∃ c, a[i]? = some c ∧ Dd.s (S [c]) = d := by
      rw [List.getElem?_map] at hd
      cases q : a[i]? with
      | none => rw [q] at hd; cases hd
      | some n => rw [q] at hd; exact ⟨n, rfl, Option.some.inj hd⟩
    obtain rfl : v = V.str (S [c]) := hv2
    refine a_when (K := K) (b := !decide (c ∈ signs)) (et1 (er_op (d1 := .s (S [c])) (d2 := .s (S signs)) (er_v rfl) er_c (ro_niS (c := c)))) (fun hb A3 e3 => ?_) fun hb A3 e3 => ?_
    · refine a_rete (K := K) er_c ?_ (((e1.trans e2).trans (ea.trans s2.a)).trans e3) hk
      have e0 : (a.all fun c => decide (c ∈ signs)) = false := all_not hc (by simpa using hb)
      show Dd.i 0 = Dd.i (rankT a)
      unfold rankT
      rw [e0, Bool.and_false]
      rfl
    · have hcs : decide (c ∈ signs) = true := by simpa using hb
      have hnx : ((a.take (i + 1)).all fun c => decide (c ∈ signs)) = true := by rw [all_next hc, hM, hcs]; rfl
      have hmem : (45 ∈ a.take (i + 1)) ↔ (45 ∈ a.take i ∨ c = 45) := by
        rw [List.take_add_one, hc, List.mem_append]
        simp [eq_comm]
      refine a_when1 (K := K) (b := decide (c = 45)) (Et.to (et1 (er_op (er_v rfl) er_c ro_eqC)) (by simp)) (fun hb2 A4 e4 => ?_) fun hb2 A4 e4 => ?_
      · have hc45 : c = 45 := of_decide_eq_true hb2
        refine a_setv1 (K := K) (x := .int 1) er_c fun A5 e5 => ?_
        refine ⟨G2, ⟨some (.str (S [c])), ?_, (((ea.trans s2.a).trans e3).trans e4).trans e5, hnx⟩, eg1.trans s2.g, ((s2.v.trans e3).trans e4).trans e5⟩
        · rw [if_pos (hmem.mpr (.inr hc45))]
          rfl
      · have hc45 : ¬ c = 45 := of_decide_eq_false hb2
        refine ⟨G2, ⟨some (.str (S [c])), ?_, ((ea.trans s2.a).trans e3).trans e4, hnx⟩, eg1.trans s2.g, (s2.v.trans e3).trans e4⟩
        have : (if 45 ∈ a.take (i + 1) then (1 : Int) else 2) = if 45 ∈ a.take i then 1 else 2 := by
          by_cases h : 45 ∈ a.take i
          · rw [if_pos h, if_pos (hmem.mpr (.inl h))]
          · rw [if_neg h, if_neg (fun z => (hmem.mp z).elim h hc45)]
        rw [this]
        rfl
  · rintro σ' G' A' eg ev ⟨y, rfl, ea, hM⟩
    rw [List.length_map, List.take_length] at hM
    refine a_rete (K := K) (er_v rfl) ?_ ((e1.trans e2).trans ea) hk
    show Dd.i _ = Dd.i (rankT a)
    unfold rankT
    rw [List.length_map, List.take_length, hL, hM]
    rfl

abbrev s__law_is_name : Stmt := topS 35
theorem sc__law_is_name : FnScope ["thing", "k"] ["thing"] (defScope s__law_is_name) := ⟨rfl, rfl, rfl, by decide +kernel, rfl, by decide +kernel, by decide +kernel⟩

def nm36 : List Nat := letters ++ digits
def nmCut (k : Nat) : List Nat := nm36.take (if 0 < k then 36 else 26)
def lawName (l : List Nat) : Bool := (List.range l.length).all fun k => decide (l.getD k 0 ∈ nmCut k)
abbrev sp__law_is_name (K : PySem.W.Frag) (C : Addr) : Sp := spR K (fun th : Th => ThOk th) (fun th => [thD C th]) fun th => .b (isT th && (lenB (txT th) 8 && lawName (txT th)))
theorem has__law_is_name {C : Addr} (O : ObTy K C) (T : Txt K mg) (h : At K mg "_law_is_name" s__law_is_name ["thing"]) : Has P w K mg base 1 "_law_is_name" ["thing"] (sp__law_is_name K C) := by
  refine h.hasR sc__law_is_name (fun _ => rfl) fun f cdv A outer s H th vs Q E hr hp hv hk => ?_
  replace hp : ThOk th := hp
  rcases hv with _ | ⟨hx, _ | _⟩
  rename_i x
  replace hx : Is K H (thD C th) x := hx
  have hal := txT_len hp
  have sc := sc__law_is_name
  refine ⟨_, (pss_cons (ps_if (PW.pt (pw_or (pt_not (pt_val (pe_callB (cr_isi_k (K := K)) (by rfl) T.b_isinstance (by decide +kernel) (pa_cons (pv 0) (pa_cons (pe_bltn (v := .ty "str") (by rfl) T.b_str (by decide +kernel) rfl) pa_nil))))) (pw_or (pt_cmpR op_lt (pe_callB cr_lenStr (by rfl) T.b_len (by decide +kernel) (pa_cons (pv 0) pa_nil)) pe_int (nomark _)) (pw_or1 (pt_cmpR op_gt (pe_callB cr_lenStr (by rfl) T.b_len (by decide +kernel) (pa_cons (pv 0) pa_nil)) pe_int (nomark _)))))) (pss_one (ps_ret pe_bl)) pss_nil)
    (pss_cons (ps_for PassesOwn.never rfl (pi_range1 (by rfl) T.b_range (pa_cons (pe_callB cr_lenStr (by rfl) T.b_len (by decide +kernel) (pa_cons (pv 0) pa_nil)) pa_nil)) (pg_name (i := 1) sc.nd rfl (Or.inl rfl)) (pss_one (ps_if (pt_cmpR op_notInS (pe_ix ix_str (pv 0) (pv 1) (fun _ _ => rfl)) (pe_slice sl_str (pe_strS [97, 98, 99, 100, 101, 102, 103, 104, 105, 106, 107, 108, 109, 110, 111, 112, 113, 114, 115, 116, 117, 118, 119, 120, 121, 122, 48, 49, 50, 51, 52, 53, 54, 55, 56, 57] (by rfl)) po_none (po_some (pe_ix (ix_list_k (K := K)) (pe_lst (pa_cons pe_int (pa_cons pe_int pa_nil))) (pe_callTy cr_int (by rfl) T.b_int (by decide +kernel) (pa_cons (pe_cmpR op_gt (pv 1) pe_int (nomark _)) pa_nil)) (fun _ _ => rfl)))) rfl) (pss_one (ps_ret pe_bl)) pss_nil)))
    (pss_one (ps_ret pe_bl)))), ?_⟩
  refine a_when (K := K) (et_unfit (n := 8) O hp rfl hx rfl) (fun hb H1 e1 => ?_) fun hb0 H1 e1 => ?_
  · refine a_rete (K := K) er_c ?_ e1 hk
    show Dd.b false = Dd.b (isT th && (lenB (txT th) 8 && lawName (txT th)))
    have hb' : (isT th && lenB (txT th) 8) = false := Bool.not_eq_true' _ |>.mp hb
    rw [← Bool.and_assoc, hb']
    rfl
  have hb1 : isT th = true ∧ lenB (txT th) 8 = true := by simpa using hb0
  obtain ⟨hT, hL⟩ := hb1
  obtain rfl := is_text hT hx
  have hk : ∀ v H', Ex H H' → Is K H' (Dd.b (lawName (txT th))) v → Q v H' := fun v H' e z => hk v H' e (by show Is K H' (Dd.b (isT th && (lenB (txT th) 8 && lawName (txT th)))) v; rw [hT, hL]; exact z)
  generalize txT th = a at *
  refine b_forR1 (K := K) (n := a.length) ?_ (by omega) (fun i σ' H' => ∃ y, σ' = [some (.str (S a)), y] ∧ Ex H H' ∧ ((List.range i).all fun k => decide (a.getD k 0 ∈ nmCut k)) = true) (fun H2 e2 => ⟨none, rfl, e1.trans e2, rfl⟩) ?_ ?_
  · exact era_cons (er_cb (era_cons (er_v rfl) era_nil) (rc_lenC (z := a) (by omega))) era_nil
  · rintro i σ' H' hi ⟨y, rfl, e, hM⟩
    refine a_when1 (K := K) (b := !decide (a.getD i 0 ∈ nmCut i)) (et1 (er_op (d1 := .s (S [a.getD i 0])) (d2 := .s (S (nmCut i))) (er_sign (n := i) (er_v rfl) (er_v rfl) hi (by omega)) (er_slTo (l := nm36) (n := if 0 < i then 36 else 26) er_c (by decide) (Er.to (er_pick (b := decide ((i : Int) > 0)) er_c er_c (er_op (er_v rfl) er_c ro_I0)) ?_)) (ro_niS (c := a.getD i 0)))) (fun hb H3 e3 => ?_) fun hb H3 e3 => ?_
    · by_cases h : 0 < i
      · rw [if_pos h, decide_eq_true (by omega)]
        rfl
      · rw [if_neg h, decide_eq_false (by omega)]
        rfl
    · refine a_rete (K := K) er_c ?_ (e.trans e3) hk
      have e0 : lawName a = false := by
        unfold lawName
        rw [List.all_eq_false]
        exact ⟨i, List.mem_range.mpr hi, by simpa using hb⟩
      show Dd.b false = Dd.b (lawName a)
      rw [e0]
    · refine ⟨some (.int (i : Int)), rfl, e.trans e3, ?_⟩
      rw [List.range_succ, List.all_append, hM]
      simpa using hb
  · rintro σ' H' ⟨y, rfl, e, hM⟩
    refine a_rete (K := K) er_c ?_ e hk
    show Dd.b true = Dd.b (lawName a)
    rw [show lawName a = true from hM]
end
end Mi

set_option maxHeartbeats 4000000
namespace Mi
open PySem PySem.Spec PyProof.Rows L2 Evl
local macro_rules | `(tactic| walk_at "side") => `(tactic| (first | assumption | omega | exact rfl | decide | (simp only [List.length_cons, List.length_nil, List.length_map, List.length_append, List.length_replicate] <;> omega)))
local macro_rules | `(tactic| walk_at "ro") => `(tactic| (first
  | with_reducible exact ro_I0
  | with_reducible exact ro_1018
  | with_reducible exact ro_neC
  | with_reducible exact ro_eqC
  | with_reducible exact ro_neI
  | with_reducible exact ro_eqI
  | with_reducible exact ro_neB
  | with_reducible exact ro_eqB
  | ((with_reducible apply ro_mod); (walk_at "side"))
  | ((with_reducible apply ro_div) <;> (walk_at "side"))
  | ((with_reducible apply ro_divW) <;> (walk_at "side"))
  | with_reducible exact ro_1012
  | with_reducible exact ro_1015
  | ((with_reducible apply ro_mulL) <;> (walk_at "side"))
  | ((with_reducible apply ro_mulR) <;> (walk_at "side"))
  | ((with_reducible apply ro_addC); (walk_at "side"))
  | ((with_reducible apply ro_ixC) <;> (walk_at "side"))
  | ((with_reducible apply ro_ixI) <;> (walk_at "side"))
  | ((with_reducible apply ro_ixIN) <;> (walk_at "side"))
  | ((with_reducible apply ro_ixT2) <;> (walk_at "side"))
  | ((with_reducible apply ro_ixG) <;> (walk_at "side"))
  | ((with_reducible apply ro_eq); exact rfl)
  | ((with_reducible apply ro_ne); exact rfl)
  | with_reducible exact ro_isN
  | with_reducible exact ro_notN
  | with_reducible exact ro_eqL
  | with_reducible exact ro_neL
  | with_reducible exact ro_eqU
  | ((with_reducible apply ro_cat); (walk_at "side"))
  | with_reducible exact ro_inLi
  | with_reducible exact ro_inNi
  | with_reducible exact ro_inUi
  | ((with_reducible apply ro_inL) <;> (walk_at "side"))
  | ((with_reducible apply ro_inN) <;> (walk_at "side"))
  | ((with_reducible apply ro_inU) <;> (walk_at "side"))))
local macro_rules | `(tactic| walk_at "rc") => `(tactic| (first
  | with_reducible exact rc_int
  | with_reducible exact rc_intB
  | with_reducible exact rc_max2
  | ((with_reducible apply rc_lenC); (walk_at "side"))
  | with_reducible exact rc_lenI
  | with_reducible exact rc_lenT
  | with_reducible exact rc_lenIN
  | with_reducible exact rc_lenTN
  | with_reducible exact rc_lenL
  | with_reducible exact rc_lenN
  | with_reducible exact rc_lenU
  | with_reducible exact rc_listL
  | with_reducible exact rc_listU
  | with_reducible exact rc_tupL
  | with_reducible exact rc_tupN
  | ((with_reducible apply rc_isi_int); decide +kernel)
  | ((with_reducible apply rc_isi_str); decide +kernel)
  | ((with_reducible apply rc_isi_bl); decide +kernel)
  | ((with_reducible apply rc_isi_non); decide +kernel)
  | ((with_reducible apply rc_isi_u); decide +kernel)
  | ((with_reducible apply rc_isi_l); decide +kernel)))
local macro_rules | `(tactic| walk_at "er") => `(tactic| (first
  | ((with_reducible apply er_var); (exact rfl); assumption)
  | ((with_reducible apply er_v); exact rfl)
  | with_reducible exact er_c
  | ((with_reducible apply er_pick); (walk_at "er"); (walk_at "er"); (walk_at "er"))
  | ((with_reducible apply er_op); (walk_at "er"); (walk_at "er"); (walk_at "ro"))
  | ((with_reducible apply er_cb); (walk_at "era"); (walk_at "rc"))
  | ((with_reducible apply er_lst'); (walk_at "era"); (exact rfl); (walk_at "side"))
  | ((with_reducible apply er_tup'); (walk_at "era"); (exact rfl); (walk_at "side"))
  | ((with_reducible apply er_notV); (walk_at "er"))
  | ((with_reducible apply er_andV); (walk_at "er"); (intro _; (walk_at "er")))
  | ((with_reducible apply er_orV); (walk_at "er"); (intro _; (walk_at "er")))
  | ((with_reducible apply er_ite); (walk_at "et"); (intro _; (walk_at "er")); (intro _; (walk_at "er")))))
local macro_rules | `(tactic| walk_at "era") => `(tactic| (first
  | with_reducible exact era_nil
  | ((with_reducible apply era_cons); (walk_at "er"); (walk_at "era"))))
local macro_rules | `(tactic| walk_at "et") => `(tactic| (first
  | ((with_reducible apply et_an); (walk_at "et"); (intro _; (walk_at "et")))
  | ((with_reducible apply et_orr); (walk_at "et"); (intro _; (walk_at "et")))
  | ((with_reducible apply et_nt); (walk_at "et"))
  | ((with_reducible apply et1); (walk_at "er"))
  | ((with_reducible apply et2); (walk_at "er"))))

section
variable {P : Program} {w : World} {K : PySem.W.Frag} {mg : Str → Option Value} {base : Heap}
theorem sign_in (c : Nat) : signOk c = decide (c ∈ signs) := by
  unfold signOk
  rw [show signs = 45 :: alls from rfl]
  by_cases h1 : c = 45 <;> by_cases h2 : c ∈ alls <;> simp [h1, h2]
theorem layer_rank (l : List Nat) : (lenB l 30 && l.all fun c => decide (c ∈ signs)) = layerOk l := by
  unfold layerOk lenB
  congr 1
  exact congrArg l.all (funext fun c => (sign_in c).symm)
theorem rank0 (th : Th) : decide (rankM th > 0) = (isT th && layerOk (txT th)) := by
  unfold rankM rankT
  rw [layer_rank]
  cases isT th with
  | false => rfl
  | true =>
    rw [if_pos rfl, Bool.true_and]
    cases layerOk (txT th) with
    | false => rfl
    | true =>
      rw [if_pos rfl]
      by_cases h : 45 ∈ txT th
      · rw [if_pos h]; rfl
      · rw [if_neg h]; rfl
theorem rank1 (th : Th) : decide (rankM th > 1) = (isT th && sheetOk (txT th)) := by
  unfold rankM rankT sheetOk
  rw [layer_rank]
  cases isT th with
  | false => rfl
  | true =>
    rw [if_pos rfl, Bool.true_and]
    cases layerOk (txT th) with
    | false => rfl
    | true =>
      rw [if_pos rfl]
      by_cases h : 45 ∈ txT th
      · rw [if_pos h, decide_eq_true h]; rfl
      · rw [if_neg h, decide_eq_false h]; rfl
theorem nm_in (c : Nat) : nameSign c = decide (c ∈ nm36) := by
  unfold nameSign nm36
  by_cases h1 : c ∈ letters <;> by_cases h2 : c ∈ digits <;> simp [h1, h2]
theorem cut0 : nmCut 0 = letters := by decide
theorem cutS (k : Nat) : nmCut (k + 1) = nm36 := rfl
theorem name_law (l : List Nat) : (lenB l 8 && lawName l) = nameOk l := by
  unfold nameOk
  show (lenB l 8 && _) = (lenB l 8 && _)
  cases hL : lenB l 8 with
  | false => rfl
  | true =>
    rw [Bool.true_and, Bool.true_and]
    cases l with
    | nil => cases hL
    | cons c r =>
      unfold lawName
      rw [List.length_cons, List.range_succ_eq_map, List.all_cons, List.all_map, cut0, List.all_cons]
      show (decide (c ∈ letters) && _) = (decide (c ∈ letters) && (nameSign c && r.all nameSign))
      by_cases hc : c ∈ letters
      · have e1 : nameSign c = true := by
          unfold nameSign
          rw [decide_eq_true hc]
          rfl
        rw [decide_eq_true hc, e1, Bool.true_and, Bool.true_and, Bool.true_and]
        rw [Bool.eq_iff_iff, List.all_eq_true, List.all_eq_true]
        constructor
        · intro h x hx
          obtain ⟨i, hi, rfl⟩ := List.getElem_of_mem hx
          have q := h i (List.mem_range.mpr hi)
          rw [nm_in]
          simp only [Function.comp, List.getD_cons_succ] at q
          rw [List.getD_eq_getElem?_getD, List.getElem?_eq_getElem hi] at q
          exact q
        · intro h i hi
          have hi := List.mem_range.mp hi
          have q := h r[i] (List.getElem_mem hi)
          rw [nm_in] at q
          simp only [Function.comp, List.getD_cons_succ]
          rw [List.getD_eq_getElem?_getD, List.getElem?_eq_getElem hi]
          exact q
      · rw [decide_eq_false hc, Bool.false_and, Bool.false_and]
theorem ro_eq3 {a b c : Bool} : Ro K (rEqD K) (.n [.bl a, .bl b, .bl c]) (.n [.bl a, .bl b, .bl c]) (.b true) := by
  rintro _ _ H1 ⟨p, rfl, hp⟩ ⟨p', rfl, hp'⟩ Q q
  refine ⟨.list [.bool a, .bool b, .bool c], .list [.bool a, .bool b, .bool c], .lst (sq_of hp) (.cons (.bl a) (.cons (.bl b) (.cons (.bl c) .nil))), .lst (sq_of hp') (.cons (.bl a) (.cons (.bl b) (.cons (.bl c) .nil))), ?_, ?_, q _ H1 (Ex.refl H1) ?_⟩
  · simp [SeqAt.shaped, PyData.canLay0, PyData.depth, PyData.canLayAll0, PyData.depthAll]
  · simp [SeqAt.shaped, PyData.canLay0, PyData.depth, PyData.canLayAll0, PyData.depthAll]
  · show V.bl _ = V.bl true
    simp [PyData.eqv, PyData.eqvAll]
abbrev s__law_right : Stmt := topS 36
theorem sc__law_right : FnScope ["thing", "by_name", "told", "answer", "rank"] ["thing", "by_name"] (defScope s__law_right) := ⟨rfl, rfl, rfl, by decide +kernel, rfl, by decide +kernel, by decide +kernel⟩

abbrev sp__law_right (K : PySem.W.Frag) (C : Addr) : Sp := spR K (fun a : Th × Bool => ThOk a.1) (fun a => [thD C a.1, .b a.2]) fun _ => .b true
theorem has__law_right {C : Addr} (T : Txt K mg) (h : At K mg "_law_right" s__law_right ["thing", "by_name"]) (C_is_layer : Has P w K mg base 1 "is_layer" ["value"] (sp_is_layer K C)) (C_is_sheet : Has P w K mg base 2 "is_sheet" ["value"] (sp_is_sheet K C)) (C_is_name : Has P w K mg base 1 "is_name" ["value"] (sp_is_name K C)) (C__law_rank : Has P w K mg base 1 "_law_rank" ["thing"] (sp__law_rank K C)) (C__law_is_name : Has P w K mg base 1 "_law_is_name" ["thing"] (sp__law_is_name K C)) : Has P w K mg base 3 "_law_right" ["thing", "by_name"] (sp__law_right K C) := by
  refine h.hasR sc__law_right (fun _ => rfl) fun f cdv A outer s H a vs Q E hr hp hv hk => ?_
  obtain ⟨th, bn⟩ := a
  replace hp : ThOk th := hp
  rcases hv with _ | ⟨hx, _ | ⟨rfl, _ | _⟩⟩
  rename_i x
  replace hx : Is K H (thD C th) x := hx
  have sc := sc__law_right
  refine ⟨_, (pss_cons (ps_if (pt_val (pv 1)) (pss_one (ps_set (i := 2) sc.nd rfl (Or.inl rfl) (pe_lst (pa_cons (pe_callH1 C_is_layer (hr.mono (by decide)) (pv 0)) (pa_cons (pe_callH1 C_is_sheet (hr.mono (by decide)) (pv 0)) (pa_cons (pe_callH1 C_is_name (hr.mono (by decide)) (pv 0)) pa_nil)))))) (pss_one (ps_set (i := 2) sc.nd rfl (Or.inl rfl) (pe_lst (pa_cons (pe_callH C_is_layer (hr.mono (by decide)) (pa_cons (pv 0) pa_nil)) (pa_cons (pe_callH C_is_sheet (hr.mono (by decide)) (pa_cons (pv 0) pa_nil)) (pa_cons (pe_callH C_is_name (hr.mono (by decide)) (pa_cons (pv 0) pa_nil)) pa_nil)))))))
    (pss_cons (ps_for PassesOwn.never rfl (pi_list_k (K := K) (pv 2)) (pg_name (i := 3) sc.nd rfl (Or.inl rfl)) (pss_one (ps_if (pt_not (pt_val (pe_callB (cr_isi_k (K := K)) (by rfl) T.b_isinstance (by decide +kernel) (pa_cons (pv 3) (pa_cons (pe_bltn (v := .ty "bool") (by rfl) T.b_bool (by decide +kernel) rfl) pa_nil))))) (pss_one (ps_ret pe_bl)) pss_nil)))
    (pss_cons (ps_set (i := 4) sc.nd rfl (Or.inl rfl) (pe_callH C__law_rank (hr.mono (by decide)) (pa_cons (pv 0) pa_nil)))
    (pss_one (ps_ret (pe_cmpR (op_eqD_k (K := K) hr.units) (pv 2) (pe_lst (pa_cons (pe_cmpR op_gt (pv 4) pe_int (nomark _)) (pa_cons (pe_cmpR op_gt (pv 4) pe_int (nomark _)) (pa_cons (pe_callH C__law_is_name (hr.mono (by decide)) (pa_cons (pv 0) pa_nil)) pa_nil)))) (nomark _))))))), ?_⟩
  refine a_ifElse (K := K) (b := bn) (d := .n [.bl (isT th && layerOk (txT th)), .bl (isT th && sheetOk (txT th)), .bl (isT th && nameOk (txT th))]) (et2 (er_v rfl)) (fun _ => er_lst (vs := [.bl (isT th && layerOk (txT th)), .bl (isT th && sheetOk (txT th)), .bl (isT th && nameOk (txT th))]) (era_cons (er_call1 (K := K) th (er_var rfl hx) rfl hp) (era_cons (er_call1 (K := K) th (er_var rfl hx) rfl hp) (era_cons (er_call1 (K := K) th (er_var rfl hx) rfl hp) era_nil))) (by simp)) (fun _ => er_lst (vs := [.bl (isT th && layerOk (txT th)), .bl (isT th && sheetOk (txT th)), .bl (isT th && nameOk (txT th))]) (era_cons (er_call (K := K) th (era_cons (er_var rfl hx) era_nil) rfl hp) (era_cons (er_call (K := K) th (era_cons (er_var rfl hx) era_nil) rfl hp) (era_cons (er_call (K := K) th (era_cons (er_var rfl hx) era_nil) rfl hp) era_nil))) (by simp)) fun xt H1 e1 ht => ?_
  refine b_forL (K := K) (xs := [.bl (isT th && layerOk (txT th)), .bl (isT th && sheetOk (txT th)), .bl (isT th && nameOk (txT th))]) (Er.n2l (er_var rfl ht)) (fun H5 i σ' H' => ∃ y, σ' = [some x, some (.bl bn), some xt, y, none] ∧ Ex H5 H') (fun H5 e5 => ⟨none, rfl, Ex.refl _⟩) (fun H5 i σ' H' ⟨_, _, e⟩ => e) ?_ ?_
  · rintro H5 i y σ' H6 e5 hi ⟨y0, rfl, e6⟩
    obtain ⟨b, rfl⟩ : ∃ b : Bool, V.bl b = y := by
      have m := List.mem_of_getElem? hi
      simp only [List.mem_cons, List.not_mem_nil, or_false] at m
      rcases m with rfl | rfl | rfl <;> exact ⟨_, rfl⟩
    exact a_when1 (K := K) (b := !true) (et_nt (et2 (er_cb (era_cons (er_v rfl) (era_cons er_c era_nil)) (rc_isi_bl (by decide +kernel))))) (fun hb => by cases hb) fun _ H7 e7 => ⟨some (.bl b), rfl, e6.trans e7⟩
  · rintro H5 σ' H' e5 ⟨y0, rfl, e⟩
    have E1 := e5.trans e
    refine a_setv (K := K) (x := .int (rankM th)) (er_call (K := K) th (era_cons (er_var rfl ((hx.mono e1).mono E1)) era_nil) rfl hp) fun H7 e7 => ?_
    have E2 := E1.trans e7
    refine a_rete (K := K) (er_op (d2 := .n [.bl (isT th && layerOk (txT th)), .bl (isT th && sheetOk (txT th)), .bl (isT th && nameOk (txT th))]) (er_var rfl (ht.mono E2)) (Er.to (er_lst (vs := [.bl (decide (rankM th > 0)), .bl (decide (rankM th > 1)), .bl (isT th && (lenB (txT th) 8 && lawName (txT th)))]) (era_cons (er_op (er_v rfl) er_c ro_I0) (era_cons (er_op (er_v rfl) er_c ro_I0) (era_cons (er_call (K := K) th (era_cons (er_var rfl ((hx.mono e1).mono E2)) era_nil) rfl hp) era_nil))) (by simp)) (by rw [rank0, rank1, name_law])) ro_eq3) rfl (e1.trans E2) hk
end
end Mi

set_option maxHeartbeats 4000000
namespace Mi
open PySem PySem.Spec PyProof.Rows L2 Evl
local macro_rules | `(tactic| walk_at "side") => `(tactic| (first | assumption | omega | exact rfl | decide | (simp only [List.length_cons, List.length_nil, List.length_map, List.length_append, List.length_replicate] <;> omega)))
local macro_rules | `(tactic| walk_at "ro") => `(tactic| (first
  | with_reducible exact ro_I0
  | with_reducible exact ro_1018
  | with_reducible exact ro_neC
  | with_reducible exact ro_eqC
  | with_reducible exact ro_neI
  | with_reducible exact ro_eqI
  | with_reducible exact ro_neB
  | with_reducible exact ro_eqB
  | ((with_reducible apply ro_mod); (walk_at "side"))
  | ((with_reducible apply ro_div) <;> (walk_at "side"))
  | ((with_reducible apply ro_divW) <;> (walk_at "side"))
  | with_reducible exact ro_1012
  | with_reducible exact ro_1015
  | ((with_reducible apply ro_mulL) <;> (walk_at "side"))
  | ((with_reducible apply ro_mulR) <;> (walk_at "side"))
  | ((with_reducible apply ro_addC); (walk_at "side"))
  | ((with_reducible apply ro_ixC) <;> (walk_at "side"))
  | ((with_reducible apply ro_ixI) <;> (walk_at "side"))
  | ((with_reducible apply ro_ixIN) <;> (walk_at "side"))
  | ((with_reducible apply ro_ixT2) <;> (walk_at "side"))
  | ((with_reducible apply ro_ixG) <;> (walk_at "side"))
  | ((with_reducible apply ro_eq); exact rfl)
  | ((with_reducible apply ro_ne); exact rfl)
  | with_reducible exact ro_isN
  | with_reducible exact ro_notN
  | with_reducible exact ro_eqL
  | with_reducible exact ro_neL
  | with_reducible exact ro_eqU
  | ((with_reducible apply ro_cat); (walk_at "side"))
  | with_reducible exact ro_inLi
  | with_reducible exact ro_inNi
  | with_reducible exact ro_inUi
  | ((with_reducible apply ro_inL) <;> (walk_at "side"))
  | ((with_reducible apply ro_inN) <;> (walk_at "side"))
  | ((with_reducible apply ro_inU) <;> (walk_at "side"))))
local macro_rules | `(tactic| walk_at "rc") => `(tactic| (first
  | with_reducible exact rc_int
  | with_reducible exact rc_intB
  | with_reducible exact rc_max2
  | ((with_reducible apply rc_lenC); (walk_at "side"))
  | with_reducible exact rc_lenI
  | with_reducible exact rc_lenT
  | with_reducible exact rc_lenIN
  | with_reducible exact rc_lenTN
  | with_reducible exact rc_lenL
  | with_reducible exact rc_lenN
  | with_reducible exact rc_lenU
  | with_reducible exact rc_listL
  | with_reducible exact rc_listU
  | with_reducible exact rc_tupL
  | with_reducible exact rc_tupN
  | ((with_reducible apply rc_isi_int); decide +kernel)
  | ((with_reducible apply rc_isi_str); decide +kernel)
  | ((with_reducible apply rc_isi_bl); decide +kernel)
  | ((with_reducible apply rc_isi_non); decide +kernel)
  | ((with_reducible apply rc_isi_u); decide +kernel)
  | ((with_reducible apply rc_isi_l); decide +kernel)))
local macro_rules | `(tactic| walk_at "er") => `(tactic| (first
  | ((with_reducible apply er_var); (exact rfl); assumption)
  | ((with_reducible apply er_v); exact rfl)
  | with_reducible exact er_c
  | ((with_reducible apply er_pick); (walk_at "er"); (walk_at "er"); (walk_at "er"))
  | ((with_reducible apply er_op); (walk_at "er"); (walk_at "er"); (walk_at "ro"))
  | ((with_reducible apply er_cb); (walk_at "era"); (walk_at "rc"))
  | ((with_reducible apply er_lst'); (walk_at "era"); (exact rfl); (walk_at "side"))
  | ((with_reducible apply er_tup'); (walk_at "era"); (exact rfl); (walk_at "side"))
  | ((with_reducible apply er_notV); (walk_at "er"))
  | ((with_reducible apply er_andV); (walk_at "er"); (intro _; (walk_at "er")))
  | ((with_reducible apply er_orV); (walk_at "er"); (intro _; (walk_at "er")))
  | ((with_reducible apply er_ite); (walk_at "et"); (intro _; (walk_at "er")); (intro _; (walk_at "er")))))
local macro_rules | `(tactic| walk_at "era") => `(tactic| (first
  | with_reducible exact era_nil
  | ((with_reducible apply era_cons); (walk_at "er"); (walk_at "era"))))
local macro_rules | `(tactic| walk_at "et") => `(tactic| (first
  | ((with_reducible apply et_an); (walk_at "et"); (intro _; (walk_at "et")))
  | ((with_reducible apply et_orr); (walk_at "et"); (intro _; (walk_at "et")))
  | ((with_reducible apply et_nt); (walk_at "et"))
  | ((with_reducible apply et1); (walk_at "er"))
  | ((with_reducible apply et2); (walk_at "er"))))

section
variable {P : Program} {w : World} {K : PySem.W.Frag} {mg : Str → Option Value} {base : Heap}
/-! ### texts that are changed -/
structure TOk (n : Nat) (t : List Nat) : Prop where
  l : t.length ≤ n
  c : ∀ x ∈ t, x < 200
theorem TOk.mono {n m : Nat} {t : List Nat} (h : TOk n t) (e : n ≤ m) : TOk m t := ⟨Nat.le_trans h.l e, h.c⟩
def ed (t : List Nat) (p x : Nat) : List Nat := (t.take p ++ [x]) ++ t.drop (p + 1)
theorem ed_ok {n : Nat} {t : List Nat} {p x : Nat} (h : TOk n t) (hx : x < 200) : TOk (n + 1) (ed t p x) := by
  refine ⟨?_, fun y hy => ?_⟩
  · have := h.l
    unfold ed
    simp only [List.length_append, List.length_take, List.length_drop, List.length_cons, List.length_nil]
    omega
  · unfold ed at hy
    rcases List.mem_append.mp hy with q | q
    · rcases List.mem_append.mp q with q | q
      · exact h.c y (List.mem_of_mem_take q)
      · rw [List.mem_singleton.mp q]
        exact hx
    · exact h.c y (List.mem_of_mem_drop q)
theorem getD_small {l : List Nat} (h : ∀ x ∈ l, x < 200) (i : Nat) : l.getD i 0 < 200 := by
  by_cases hi : i < l.length
  · exact h _ (mem_getD hi)
  · rw [List.getD_eq_getElem?_getD, List.getElem?_eq_none (by omega)]
    decide
section
variable {σ : L2.St} {H H' G A : Hp} {tt ts tp te ti tg : TE}
/-- text[:place] + sign + text[place + 1:] -/
theorem er_edit {t : List Nat} {pl x : Nat} (ht : Er K tt σ H (.s (S t))) (lt : t.length ≤ 1000) (hp : Er K tp σ H (.i (pl : Int))) (hs : Er K ts σ H (.s (S [x]))) :
    Er K (tOp rAddS2 (tOp rAddS2 (tSl rSlS tt tNoPart (tPart tp)) ts) (tSl rSlS tt (tPart (tOp (rI0 fun i j => .int (i + j)) tp (tC (.int 1)))) tNoPart)) σ H (.s (S (ed t pl x))) :=
  er_op (er_op (er_slTo ht (by omega) hp) hs (ro_addC (by rw [List.length_take]; simp; omega))) (er_slFrom (n := pl + 1) ht (by omega) (Er.to (er_op hp er_c ro_I0) (by simp))) (ro_addC (by simp only [List.length_append, List.length_take, List.length_drop, List.length_cons, List.length_nil]; omega))
theorem er_sig {g : List Nat} {j : Int} (hs : Er K tg σ H (.s (S g))) (hi : Er K ti σ H (.i j)) (h0 : 0 ≤ j) (h1 : j < g.length) (hg : g.length ≤ 1000) : Er K (tOp rIxS tg ti) σ H (.s (S [g.getD j.toNat 0])) := er_op hs hi (ro_ixC h0 h1 (by omega))
theorem er_spot {sp : List Int} {xs : V} (z : Int) (hv : σ[1]? = some (some xs)) (hx : Is K H (.l (vis sp)) xs) (h0 : 0 ≤ z) (h1 : z < sp.length) : Er K (tOp (rIxL K) (tVar 1) (tC (.int z))) σ H (.i (sp.getD z.toNat 0)) := er_op (er_var hv hx) er_c (ro_ixI h0 h1)
/-- [text + sign, sign + text][i] -/
theorem er_ends {t g : List Nat} {i : Int} (ht : Er K tt σ H (.s (S t))) (hs : Er K ts σ H (.s (S g))) (hi : Er K ti σ H (.i (i % 2))) (hz : t.length + g.length ≤ 1000) :
    Er K (tOp (rIxL K) (tLst (tCons (tOp rAddS2 tt ts) (tCons (tOp rAddS2 ts tt) tNil))) ti) σ H (.s (S (if i % 2 = 0 then t ++ g else g ++ t))) :=
  Er.to (er_pickD (er_op ht hs (ro_addC (by omega))) (er_op hs ht (ro_addC (by omega))) hi (by omega)) (by split <;> rfl)
/-- ['-', 'z', '.'][i] -/
theorem er_three {i : Int} (hi : Er K ti σ H (.i i)) (h0 : 0 ≤ i) (h1 : i < 3) : Er K (tOp (rIxL K) (tLst (tCons (tC (.str (S [45]))) (tCons (tC (.str (S [122]))) (tCons (tC (.str (S [46]))) tNil)))) ti) σ H (.s (S [([45, 122, 46] : List Nat).getD i.toNat 0])) := by
  refine Er.to (er_op (d1 := .n [.str (S [45]), .str (S [122]), .str (S [46])]) (er_lst (vs := [.str (S [45]), .str (S [122]), .str (S [46])]) (era_cons er_c (era_cons er_c (era_cons er_c era_nil))) (by simp)) hi (ro_ixG h0 h1)) ?_
  have : i = 0 ∨ i = 1 ∨ i = 2 := by omega
  rcases this with rfl | rfl | rfl <;> rfl
/-- [sign for sign in text] -/
theorem ef_letters {t : List Nat} {j : Nat} (ht : Er K tt σ G (.s (S t))) (hz : t.length ≤ 1000) (hw : ∀ x, wipe ((wipe σ [j]).set j (some x)) [j] = wipe σ [j]) (hj : ∀ x, ((wipe σ [j]).set j (some x))[j]? = some (some x)) :
    Ef K (tLc (iStr tt) (gName j) tYes (tVar j) [j]) σ G (.N (t.map fun c => Dd.s (S [c]))) :=
  Ef.to (ef_lc (K := K) (its := t) (inj := fun c => Dd.s (S [c])) (vs := [j]) (fun _ => true) (fun c => Dd.s (S [c])) (if_text ht) (by omega) (fun i c v G' A' e1 e2 hi hv => ⟨(wipe σ [j]).set j (some v), fun Q q => q, hw v, fun H2 e Q q => q H2 (Ex.refl _), fun _ => ef_var (hj v) hv⟩)) (by rw [filt_true])
end
/-! ### what the law picks -/
def picks8 (cell : Int) (n : Int) (m : Int) : List Th := [.c (.i cell), .c (.i (-n)), .c (.i m)]
def picks9 : List Th := [.c (.v .non), .c (.b true), .c (.b false)]
def picks12 (t : List Nat) (pl : Int) (key : List Nat) : List Th := [.k [], .k [(.inr (S t), .str (S t))], .k [(.inr (S [97]), .int pl), (.inr (S key), .str (S t))]]
def picks13 (t : List Nat) : List Th := [.c (.N [.s (S t)]), .c (.U [.s (S t)]), .c (.N []), .c (.U [])]
def picks14 (t : List Nat) (pl : Int) : List Th := [.c (.N [.N [.s (S t)], .s (S t)]), .c (.U [.s (S t), .U [.v .non, .N [.s (S t)]]]), .c (.N [.i pl, .s (S t)])]
def Fit (th : Th) : Prop := ThOk th ∧ th ≠ .o
theorem fit_at {l : List Th} (h : ∀ th ∈ l, Fit th) {i : Nat} (hi : i < l.length) : Fit (l.getD i .o) := h _ (mem_getD hi)
theorem fit8 {a b c : Int} : ∀ th ∈ picks8 a b c, Fit th := by
  intro th h
  simp only [picks8, List.mem_cons, List.not_mem_nil, or_false] at h
  rcases h with rfl | rfl | rfl <;> exact ⟨⟨rfl, ⟨by simp [tyN], by simp [tyN]⟩, by simp [datD, datV, PyData.canLay0], by simp [datD, datV, PyData.depth]⟩, by simp⟩
theorem fit9 : ∀ th ∈ picks9, Fit th := by
  intro th h
  simp only [picks9, List.mem_cons, List.not_mem_nil, or_false] at h
  rcases h with rfl | rfl | rfl <;> exact ⟨⟨rfl, ⟨by decide, by decide⟩, rfl, by decide⟩, by simp⟩
theorem tok_str {n : Nat} {t : List Nat} (h : TOk n t) : PyData.strOk (S t) = true := okT_of fun c hc => Nat.lt_trans (h.c c hc) (by decide)
theorem fit_k {ks : List (Key × V)} (h : ∀ p ∈ ks, valV ks p.1 = some p.2 ∧ flatB p.2 = true) : Fit (.k ks) := ⟨h, by simp⟩
theorem fit12 {t key : List Nat} {pl : Int} (hk : S [97] ≠ S key) : ∀ th ∈ picks12 t pl key, Fit th := by
  intro th h
  simp only [picks12, List.mem_cons, List.not_mem_nil, or_false] at h
  have e : ¬ ((Sum.inr (S [97]) : Key) = .inr (S key)) := fun z => hk (Sum.inr.inj z)
  rcases h with rfl | rfl | rfl
  · exact fit_k fun p hp => by cases hp
  · refine fit_k fun p hp => ?_
    rw [List.mem_singleton.mp hp]
    exact ⟨by simp [valV], rfl⟩
  · refine fit_k fun p hp => ?_
    simp only [List.mem_cons, List.not_mem_nil, or_false] at hp
    rcases hp with rfl | rfl
    · exact ⟨by simp [valV], rfl⟩
    · exact ⟨by simp [valV, e], rfl⟩
theorem fit13 {n : Nat} {t : List Nat} (h : TOk n t) : ∀ th ∈ picks13 t, Fit th := by
  have hs := tok_str h
  intro th q
  simp only [picks13, List.mem_cons, List.not_mem_nil, or_false] at q
  rcases q with rfl | rfl | rfl | rfl
  all_goals refine ⟨⟨rfl, ⟨by simp [tyN], by simp [tyN]⟩, by simp [datD, datL, datV, PyData.canLay0, PyData.canLayAll0, hs], by simp [datD, datL, datV, PyData.depth, PyData.depthAll]⟩, by simp⟩
theorem fit14 {n : Nat} {t : List Nat} {pl : Int} (h : TOk n t) : ∀ th ∈ picks14 t pl, Fit th := by
  have hs := tok_str h
  intro th q
  simp only [picks14, List.mem_cons, List.not_mem_nil, or_false] at q
  rcases q with rfl | rfl | rfl
  all_goals refine ⟨⟨rfl, ⟨by simp [tyN], by simp [tyN]⟩, by simp [datD, datL, datV, PyData.canLay0, PyData.canLayAll0, hs], by simp [datD, datL, datV, PyData.depth, PyData.depthAll]⟩, by simp⟩
theorem dat_letters : ∀ (t : List Nat), (∀ c ∈ t, c < 200) → goodL (t.map fun c => Dd.s (S [c])) = true ∧ PyData.canLayAll0 (datL (t.map fun c => Dd.s (S [c]))) = true ∧ PyData.depthAll (datL (t.map fun c => Dd.s (S [c]))) = 0
  | [], _ => ⟨rfl, by simp [datL, PyData.canLayAll0], by simp [datL, PyData.depthAll]⟩
  | c :: r, h => by
    obtain ⟨h1, h2, h3⟩ := dat_letters r fun x hx => h x (List.mem_cons_of_mem _ hx)
    have hs : PyData.strOk (S [c]) = true := okT_of fun x hx => by
      rw [List.mem_singleton.mp hx]
      exact Nat.lt_trans (h c (List.mem_cons_self ..)) (by decide)
    refine ⟨?_, ?_, ?_⟩
    · show (true && goodL _) = true
      rw [h1]
      rfl
    · simp only [List.map_cons, datL, datD, datV, PyData.canLayAll0, PyData.canLay0, hs, h2, Bool.and_self]
    · simp only [List.map_cons, datL, datD, datV, PyData.depthAll, PyData.depth, h3]
      rfl
theorem fit10 {n : Nat} {t : List Nat} (h : TOk n t) : Fit (.c (.N (t.map fun c => Dd.s (S [c])))) := by
  obtain ⟨h1, h2, h3⟩ := dat_letters t h.c
  exact ⟨⟨h1, ⟨by simp [tyN], by simp [tyN]⟩, by show PyData.canLay0 (.list _) = true; simp only [PyData.canLay0, h2], by show PyData.depth (.list _) ≤ 8; simp only [PyData.depth, h3]; omega⟩, by simp⟩
theorem fit11 {n : Nat} {t : List Nat} (h : TOk n t) : Fit (.c (.U (t.map fun c => Dd.s (S [c])))) := by
  obtain ⟨h1, h2, h3⟩ := dat_letters t h.c
  exact ⟨⟨h1, ⟨by simp [tyN], by simp [tyN]⟩, by show PyData.canLay0 (.tuple _) = true; simp only [PyData.canLay0, h2], by show PyData.depth (.tuple _) ≤ 8; simp only [PyData.depth, h3]; omega⟩, by simp⟩

abbrev s__law_name : Stmt := topS 32
theorem sc__law_name : FnScope ["spots", "signs", "k"] ["spots"] (defScope s__law_name) := ⟨rfl, rfl, rfl, by decide +kernel, rfl, by decide +kernel, by decide +kernel⟩

def nameN (sp : List Int) : Nat := (sp.getD 0 0 + 1).toNat
def nameT (sp : List Int) : List Nat := (List.range (nameN sp)).map fun k => nm36.getD (sp.getD (1 + k) 0).toNat 0
structure NmOk (sp : List Int) : Prop where
  l : sp.length ≤ 1000
  b0 : 0 ≤ sp.getD 0 0 ∧ sp.getD 0 0 < 8
  few : nameN sp + 1 ≤ sp.length
  b : ∀ k, k < nameN sp → 0 ≤ sp.getD (1 + k) 0 ∧ sp.getD (1 + k) 0 < 36
theorem nameT_ok {sp : List Int} (h : NmOk sp) : TOk 8 (nameT sp) ∧ 1 ≤ (nameT sp).length := by
  have h0 := h.b0
  have q : nameN sp ≤ 8 ∧ 1 ≤ nameN sp := by
    unfold nameN
    omega
  refine ⟨⟨?_, fun x hx => ?_⟩, ?_⟩
  · simp [nameT]
    exact q.1
  · unfold nameT at hx
    obtain ⟨k, _, rfl⟩ := List.mem_map.mp hx
    exact getD_small (by decide) _
  · simp [nameT]
    exact q.2
abbrev sp__law_name (K : PySem.W.Frag) : Sp := spR K (fun sp : List Int => NmOk sp) (fun sp => [.l (vis sp)]) fun sp => .s (S (nameT sp))
theorem has__law_name (T : Txt K mg) (h : At K mg "_law_name" s__law_name ["spots"]) : Has P w K mg base 1 "_law_name" ["spots"] (sp__law_name K) := by
  refine h.hasR sc__law_name (fun _ => rfl) fun f cdv A outer s H sp vs Q E hr hp hv hk => ?_
  replace hp : NmOk sp := hp
  rcases hv with _ | ⟨hs, _ | _⟩
  rename_i xs
  replace hs : Is K H (.l (vis sp)) xs := hs
  have sc := sc__law_name
  have h0 := hp.b0
  have few := hp.few
  have hl := hp.l
  have hn : ((nameN sp : Nat) : Int) = sp.getD 0 0 + 1 := by
    unfold nameN
    omega
  refine ⟨_, (pss_cons (ps_set (i := 1) sc.nd rfl (Or.inr rfl) (pe_strS [97, 98, 99, 100, 101, 102, 103, 104, 105, 106, 107, 108, 109, 110, 111, 112, 113, 114, 115, 116, 117, 118, 119, 120, 121, 122, 48, 49, 50, 51, 52, 53, 54, 55, 56, 57] (by rfl)))
    (pss_one (ps_ret (pe_bm_k (K := K) PySem.F.plainAttrs_str PySem.F.slot_str_join PySem.F.type_str_join (mt_join_k (K := K)) (pe_strS [] (by rfl)) (pa_cons (pe_lc (own := [("k", 2)]) (g := gName 2) (by rfl) sc.nd (pi_range1 (by rfl) T.b_range (pa_cons (pe_op op_add (pe_callTy cr_int (by rfl) T.b_int (by decide +kernel) (pa_cons (pe_ix (ix_list_k (K := K)) (pv 0) pe_int (fun _ _ => rfl)) pa_nil)) pe_int) pa_nil)) (blkOk_by (N := ["spots", "signs", "k"]) (sc := defScope s__law_name) (own := [("k", 2)]) (by decide +kernel)) (fun _ _ _ _ _ => (pg_name (i := 2) sc.nd rfl (Or.inl rfl))) (fun _ _ _ _ _ => pts_nil) (fun _ _ _ _ _ => (pe_ix ix_str (pv 1) (pe_callTy cr_int (by rfl) T.b_int (by decide +kernel) (pa_cons (pe_ix (ix_list_k (K := K)) (pv 0) (pe_op op_add pe_int (pv 2)) (fun _ _ => rfl)) pa_nil)) (fun _ _ => rfl)))) pa_nil))))), ?_⟩
  refine a_setv (K := K) (x := .str (S nm36)) er_c fun H1 e1 => ?_
  replace hs := hs.mono e1
  refine a_rete (K := K) (er_bm (K := K) (d0 := .s (S [])) (ds := [.n ((nameT sp).map fun c => V.str (S [c]))]) er_c (era_cons (Er.to (er_lcR' (K := K) (n := nameN sp) (vs := [2]) (fun k => V.str (S [nm36.getD (sp.getD (1 + k) 0).toNat 0])) ?_ (by omega) (fun _ => rfl) ?_) ?_) era_nil) (rm_joinC ?_)) rfl e1 hk
  · refine era_cons (Er.to (er_op (er_cb (era_cons (Er.to (er_op (er_var rfl hs) er_c (ro_ixI (by decide) (by simp; omega))) rfl) era_nil) rc_int) er_c ro_I0) ?_) era_nil
    show Dd.i (sp.getD 0 0 + 1) = Dd.i _
    rw [hn]
  · intro k H2 e2 hk2
    have hb := hp.b k hk2
    exact er_op (d1 := .s (S nm36)) (d2 := .i (sp.getD (1 + k) 0)) (er_v rfl) (er_cb (era_cons (Er.to (er_op (d2 := .i ((1 + k : Nat) : Int)) (er_var rfl (hs.mono e2)) (Er.to (er_op er_c (er_v rfl) ro_I0) (by show Dd.i (1 + (k : Int)) = Dd.i _; congr 2)) (ro_ixI (by omega) (by omega))) (by rw [Int.toNat_natCast])) era_nil) rc_int) (ro_ixC hb.1 hb.2 (by decide))
  · rw [nameT, List.map_map]
    rfl
  · have := (nameT_ok hp).1.l
    omega
end
end Mi

set_option maxHeartbeats 0
namespace Mi
open PySem PySem.Spec PyProof.Rows L2 Evl
local macro_rules | `(tactic| walk_at "side") => `(tactic| (first | assumption | omega | exact rfl | decide | (simp only [List.length_cons, List.length_nil, List.length_map, List.length_append, List.length_replicate] <;> omega)))
local macro_rules | `(tactic| walk_at "ro") => `(tactic| (first
  | with_reducible exact ro_I0
  | with_reducible exact ro_1018
  | with_reducible exact ro_neC
  | with_reducible exact ro_eqC
  | with_reducible exact ro_neI
  | with_reducible exact ro_eqI
  | with_reducible exact ro_neB
  | with_reducible exact ro_eqB
  | ((with_reducible apply ro_mod); (walk_at "side"))
  | ((with_reducible apply ro_div) <;> (walk_at "side"))
  | ((with_reducible apply ro_divW) <;> (walk_at "side"))
  | with_reducible exact ro_1012
  | with_reducible exact ro_1015
  | ((with_reducible apply ro_mulL) <;> (walk_at "side"))
  | ((with_reducible apply ro_mulR) <;> (walk_at "side"))
  | ((with_reducible apply ro_addC); (walk_at "side"))
  | ((with_reducible apply ro_ixC) <;> (walk_at "side"))
  | ((with_reducible apply ro_ixI) <;> (walk_at "side"))
  | ((with_reducible apply ro_ixIN) <;> (walk_at "side"))
  | ((with_reducible apply ro_ixT2) <;> (walk_at "side"))
  | ((with_reducible apply ro_ixG) <;> (walk_at "side"))
  | ((with_reducible apply ro_eq); exact rfl)
  | ((with_reducible apply ro_ne); exact rfl)
  | with_reducible exact ro_isN
  | with_reducible exact ro_notN
  | with_reducible exact ro_eqL
  | with_reducible exact ro_neL
  | with_reducible exact ro_eqU
  | ((with_reducible apply ro_cat); (walk_at "side"))
  | with_reducible exact ro_inLi
  | with_reducible exact ro_inNi
  | with_reducible exact ro_inUi
  | ((with_reducible apply ro_inL) <;> (walk_at "side"))
  | ((with_reducible apply ro_inN) <;> (walk_at "side"))
  | ((with_reducible apply ro_inU) <;> (walk_at "side"))))
local macro_rules | `(tactic| walk_at "rc") => `(tactic| (first
  | with_reducible exact rc_int
  | with_reducible exact rc_intB
  | with_reducible exact rc_max2
  | ((with_reducible apply rc_lenC); (walk_at "side"))
  | with_reducible exact rc_lenI
  | with_reducible exact rc_lenT
  | with_reducible exact rc_lenIN
  | with_reducible exact rc_lenTN
  | with_reducible exact rc_lenL
  | with_reducible exact rc_lenN
  | with_reducible exact rc_lenU
  | with_reducible exact rc_listL
  | with_reducible exact rc_listU
  | with_reducible exact rc_tupL
  | with_reducible exact rc_tupN
  | ((with_reducible apply rc_isi_int); decide +kernel)
  | ((with_reducible apply rc_isi_str); decide +kernel)
  | ((with_reducible apply rc_isi_bl); decide +kernel)
  | ((with_reducible apply rc_isi_non); decide +kernel)
  | ((with_reducible apply rc_isi_u); decide +kernel)
  | ((with_reducible apply rc_isi_l); decide +kernel)))
local macro_rules | `(tactic| walk_at "er") => `(tactic| (first
  | ((with_reducible apply er_var); (exact rfl); assumption)
  | ((with_reducible apply er_v); exact rfl)
  | with_reducible exact er_c
  | ((with_reducible apply er_pick); (walk_at "er"); (walk_at "er"); (walk_at "er"))
  | ((with_reducible apply er_op); (walk_at "er"); (walk_at "er"); (walk_at "ro"))
  | ((with_reducible apply er_cb); (walk_at "era"); (walk_at "rc"))
  | ((with_reducible apply er_lst'); (walk_at "era"); (exact rfl); (walk_at "side"))
  | ((with_reducible apply er_tup'); (walk_at "era"); (exact rfl); (walk_at "side"))
  | ((with_reducible apply er_notV); (walk_at "er"))
  | ((with_reducible apply er_andV); (walk_at "er"); (intro _; (walk_at "er")))
  | ((with_reducible apply er_orV); (walk_at "er"); (intro _; (walk_at "er")))
  | ((with_reducible apply er_ite); (walk_at "et"); (intro _; (walk_at "er")); (intro _; (walk_at "er")))))
local macro_rules | `(tactic| walk_at "era") => `(tactic| (first
  | with_reducible exact era_nil
  | ((with_reducible apply era_cons); (walk_at "er"); (walk_at "era"))))
local macro_rules | `(tactic| walk_at "et") => `(tactic| (first
  | ((with_reducible apply et_an); (walk_at "et"); (intro _; (walk_at "et")))
  | ((with_reducible apply et_orr); (walk_at "et"); (intro _; (walk_at "et")))
  | ((with_reducible apply et_nt); (walk_at "et"))
  | ((with_reducible apply et1); (walk_at "er"))
  | ((with_reducible apply et2); (walk_at "er"))))

section
variable {P : Program} {w : World} {K : PySem.W.Frag} {mg : Str → Option Value} {base : Heap}
theorem ef_at2 {K : PySem.W.Frag} {C : Addr} {σ : L2.St} {G : Hp} {tr : TA} {ti : TE} {i : Int} {ds : List Dd} (ths : List Th) (hd : ds = ths.map (thD C)) (h : Efa K tr σ G ds) (hi : Er K ti σ G (.i i)) (h0 : 0 ≤ i) (h1 : i < ths.length) (hz : ths.length ≤ 1000) : Ef K (tOp (rIxL K) (tLst tr) ti) σ G (thD C (ths.getD i.toNat .o)) := ef_at ths (hd ▸ h) hi h0 h1 hz
theorem a_ifText {K : PySem.W.Frag} {σ : L2.St} {H : Hp} {te : TE} {t : TT} {tz : TS} {D : Ends} {i : Nat} {b : Bool} {c e t' : List Nat} (h : Et K t σ H b) (h1 : b = true → Er K te σ H (.s (S c))) (h2 : σ.set i (some (.str (S e))) = σ) (ht : t' = if b = true then c else e) (k : ∀ H1, Ex H H1 → tz D (σ.set i (some (.str (S t')))) H1) : tSeq (tIfS t (tAsg te (gName i)) tNext) tz D σ H := by
  subst ht
  exact a_ifSetS h h1 h2 k
theorem st_eq {tz : TS} {D : Ends} {σ σ' : L2.St} {H : Hp} (e : σ = σ') (h : tz D σ' H) : tz D σ H := e ▸ h
abbrev s__law_value : Stmt := topS 31
theorem sc__law_value : FnScope ["cell", "spots", "length", "text", "signs", "place", "other", "kind", "k", "sign"] ["cell", "spots"] (defScope s__law_value) := ⟨rfl, rfl, rfl, by decide +kernel, rfl, by decide +kernel, by decide +kernel⟩

def sg95 : List Nat := [32, 33, 34, 35, 36, 38, 39, 40, 41, 42, 43, 44, 45, 46, 47, 48, 49, 50, 51, 52, 53, 54, 55, 56, 57, 58, 59, 60, 61, 62, 63, 64, 65, 66, 67, 68, 69, 70, 71, 72, 73, 74, 75, 76, 77, 78, 79, 80, 81, 82, 83, 84, 85, 86, 87, 88, 89, 90, 91, 92, 93, 94, 95, 96, 97, 98, 99, 100, 101, 102, 103, 104, 105, 106, 107, 108, 109, 110, 111, 112, 113, 114, 115, 116, 117, 118, 119, 120, 121, 122, 123, 124, 125, 126, 10]
def sgV : List Nat := sg95 ++ [10, 32, 65, 95, 57, 43, 10, 32, 45]
def szV : List Int := [16, 40, 4, 27, 26, 25, 6, 34, 104, 34, 104] ++ List.replicate 34 112
structure SpV (sp : List Int) : Prop where
  l : sp.length = 45
  b : ∀ i, i < 45 → 0 ≤ sp.getD i 0 ∧ sp.getD i 0 < szV.getD i 0
def mx (i j : Int) : Int := if j > i then j else i
def lenL (a : Int) : List Int := [a, 0, 1, 30, 31, 30, 31]
def lenV (a : Int) : Int := (lenL a).getD (mx 0 (a - 33)).toNat 0
def lenN (sp : List Int) : Nat := (lenV (sp.getD 1 0)).toNat
theorem mx_bd {a : Int} (h0 : 0 ≤ a) (h1 : a < 40) : 0 ≤ mx 0 (a - 33) ∧ mx 0 (a - 33) < 7 := by
  unfold mx
  split <;> omega
theorem lenV_bd {a : Int} (h0 : 0 ≤ a) (h1 : a < 40) : 0 ≤ lenV a ∧ lenV a ≤ 33 := by
  by_cases h : a ≤ 33
  · have e : lenV a = a := by
      unfold lenV mx
      rw [if_neg (by omega)]
      rfl
    omega
  · have : a = 34 ∨ a = 35 ∨ a = 36 ∨ a = 37 ∨ a = 38 ∨ a = 39 := by omega
    rcases this with rfl | rfl | rfl | rfl | rfl | rfl <;> decide
def ikL (sp : List Int) : List Int := [sp.getD 2 0, 0] ++ (sp.drop 3).take 3
def shL : List Int := [0, 1, 2, 3, 4, 0]
def shV (sp : List Int) : Int := shL.getD (sp.getD 6 0).toNat 0
def t0V (sp : List Int) : List Nat := layT (inkT (ikL sp)) (shV sp) (sp.drop 11) (lenN sp)
theorem ikL_ok {sp : List Int} (h : SpV sp) : InkOk (ikL sp) := by
  have hl := h.l
  have b2 : 0 ≤ sp.getD 2 0 ∧ sp.getD 2 0 < 4 := h.b 2 (by decide)
  have b3 : 0 ≤ sp.getD 3 0 ∧ sp.getD 3 0 < 27 := h.b 3 (by decide)
  have len : (ikL sp).length = 5 := by
    unfold ikL
    simp only [List.length_append, List.length_take, List.length_drop, List.length_cons, List.length_nil]
    omega
  have e2 : (ikL sp).getD 2 0 = sp.getD 3 0 := by
    unfold ikL
    show ((sp.drop 3).take 3).getD 0 0 = _
    rw [List.getD_eq_getElem?_getD, List.getD_eq_getElem?_getD, List.getElem?_take, List.getElem?_drop]
    rfl
  exact ⟨by omega, by omega, b2, by rw [e2]; exact b3⟩
theorem t0_ok {sp : List Int} (h : SpV sp) : TOk 33 (t0V sp) := by
  have b1 : 0 ≤ sp.getD 1 0 ∧ sp.getD 1 0 < 40 := h.b 1 (by decide)
  have q := lenV_bd b1.1 b1.2
  refine ⟨?_, fun x hx => ?_⟩
  · unfold t0V
    rw [layT_len]
    unfold lenN
    omega
  · unfold t0V layT at hx
    obtain ⟨k, _, rfl⟩ := List.mem_map.mp hx
    unfold layC
    split
    · exact getD_small (inkT_ok (ikL_ok h)).2.2 _
    · decide
def plV (sp : List Int) (j n : Nat) : Nat := (sp.getD j 0 % mx 1 (n : Int)).toNat
theorem mx1 (n : Int) : 0 < mx 1 n := by
  unfold mx
  split <;> omega
theorem plV_is (sp : List Int) (j n : Nat) : ((plV sp j n : Nat) : Int) = sp.getD j 0 % mx 1 (n : Int) := Int.toNat_of_nonneg (Int.emod_nonneg _ (by have := mx1 (n : Int); omega))
def gAt (g : List Nat) (sp : List Int) (j : Nat) : Nat := g.getD (sp.getD j 0).toNat 0
def t1V (sp : List Int) : List Nat := if (decide (sp.getD 0 0 = 3) || decide (sp.getD 0 0 = 4)) = true then ed (t0V sp) (plV sp 7 (lenN sp)) (gAt sgV sp 8) else t0V sp
def t2V (sp : List Int) : List Nat := if decide (sp.getD 0 0 = 4) = true then ed (t1V sp) (plV sp 9 (lenN sp)) (gAt sgV sp 10) else t1V sp
def t3V (sp : List Int) : List Nat := if decide (sp.getD 0 0 = 5) = true then (if sp.getD 9 0 % 2 = 0 then t2V sp ++ [gAt sgV sp 8] else [gAt sgV sp 8] ++ t2V sp) else t2V sp
def anyV (sp : List Int) : List Nat := (List.range (lenN sp)).map fun k => sgV.getD (sp.getD (11 + k) 0 % 95).toNat 0
def t4V (sp : List Int) : List Nat := if decide (sp.getD 0 0 = 6) = true then anyV sp else t3V sp
def t5V (sp : List Int) : List Nat := if decide (sp.getD 0 0 = 7) = true then ed (t4V sp) (plV sp 7 (lenN sp)) (([45, 122, 46] : List Nat).getD (sp.getD 9 0 % 3).toNat 0) else t4V sp
theorem sgV_small : ∀ x ∈ sgV, x < 200 := by decide
theorem t1_ok {sp : List Int} (h : SpV sp) : TOk 34 (t1V sp) := by
  unfold t1V
  split
  · exact ed_ok (t0_ok h) (getD_small sgV_small _)
  · exact (t0_ok h).mono (by decide)
theorem t2_ok {sp : List Int} (h : SpV sp) : TOk 35 (t2V sp) := by
  unfold t2V
  split
  · exact ed_ok (t1_ok h) (getD_small sgV_small _)
  · exact (t1_ok h).mono (by decide)
theorem app_ok {n m : Nat} {a b : List Nat} (h1 : TOk n a) (h2 : TOk m b) : TOk (n + m) (a ++ b) :=
  ⟨by have := h1.l; have := h2.l; rw [List.length_append]; omega, fun x hx => (List.mem_append.mp hx).elim (h1.c x) (h2.c x)⟩
theorem one_ok {c : Nat} (h : c < 200) : TOk 1 [c] := ⟨Nat.le_refl _, fun x hx => by rw [List.mem_singleton.mp hx]; exact h⟩
theorem t3_ok {sp : List Int} (h : SpV sp) : TOk 36 (t3V sp) := by
  unfold t3V
  split
  · split
    · exact app_ok (t2_ok h) (one_ok (getD_small sgV_small _))
    · exact (app_ok (one_ok (getD_small sgV_small _)) (t2_ok h)).mono (by decide)
  · exact (t2_ok h).mono (by decide)
theorem any_ok {sp : List Int} (h : SpV sp) : TOk 36 (anyV sp) := by
  have b1 : 0 ≤ sp.getD 1 0 ∧ sp.getD 1 0 < 40 := h.b 1 (by decide)
  have q := lenV_bd b1.1 b1.2
  refine ⟨?_, fun x hx => ?_⟩
  · rw [anyV, List.length_map, List.length_range]
    unfold lenN
    omega
  · unfold anyV at hx
    obtain ⟨k, _, rfl⟩ := List.mem_map.mp hx
    exact getD_small sgV_small _
theorem t4_ok {sp : List Int} (h : SpV sp) : TOk 36 (t4V sp) := by
  unfold t4V
  split
  · exact any_ok h
  · exact t3_ok h
theorem t5_ok {sp : List Int} (h : SpV sp) : TOk 37 (t5V sp) := by
  unfold t5V
  split
  · exact ed_ok (t4_ok h) (getD_small (by decide) _)
  · exact (t4_ok h).mono (by decide)
def valM (cell : Int) (sp : List Int) : Th :=
  if decide (sp.getD 0 0 = 8) = true then (picks8 cell (lenN sp : Int) (lenN sp : Int)).getD (sp.getD 7 0 % 3).toNat .o
  else if decide (sp.getD 0 0 = 9) = true then picks9.getD (sp.getD 7 0 % 3).toNat .o
  else if decide (sp.getD 0 0 = 10) = true then .c (.N ((t5V sp).map fun c => Dd.s (S [c])))
  else if decide (sp.getD 0 0 = 11) = true then .c (.U ((t5V sp).map fun c => Dd.s (S [c])))
  else if decide (sp.getD 0 0 = 12) = true then (picks12 (t5V sp) (plV sp 7 (lenN sp) : Int) [46]).getD (sp.getD 7 0 % 3).toNat .o
  else if decide (sp.getD 0 0 = 13) = true then (picks13 (t5V sp)).getD (sp.getD 7 0 % 4).toNat .o
  else if decide (sp.getD 0 0 = 14) = true then (picks14 (t5V sp) (plV sp 7 (lenN sp) : Int)).getD (sp.getD 7 0 % 3).toNat .o
  else .t (t5V sp)
theorem mod_lt {x : Int} {m : Nat} (hm : 0 < m) : (x % (m : Int)).toNat < m := by
  have h0 := Int.emod_nonneg x (b := (m : Int)) (by omega)
  have h1 := Int.emod_lt_of_pos x (b := (m : Int)) (by omega)
  omega
theorem ne_key {a b : Nat} (h : a ≠ b) : S [a] ≠ S [b] := fun e => h (by have := S_inj e; simpa using this)
theorem valM_ok {cell : Int} {sp : List Int} (h : SpV sp) : Fit (valM cell sp) := by
  have ht := t5_ok h
  unfold valM
  split
  · exact fit_at fit8 (mod_lt (m := 3) (by decide))
  split
  · exact fit_at fit9 (mod_lt (m := 3) (by decide))
  split
  · exact fit10 ht
  split
  · exact fit11 ht
  split
  · exact fit_at (fit12 (ne_key (by decide))) (mod_lt (m := 3) (by decide))
  split
  · exact fit_at (fit13 ht) (mod_lt (m := 4) (by decide))
  split
  · exact fit_at (fit14 ht) (mod_lt (m := 3) (by decide))
  · exact ⟨Nat.le_trans ht.l (by decide), by simp⟩
abbrev sp__law_value (K : PySem.W.Frag) (C : Addr) : Sp := spF K (fun a : Int × List Int => SpV a.2) (fun a => [.i a.1, .l (vis a.2)]) fun a => thD C (valM a.1 a.2)
theorem has__law_value {C : Addr} (T : Txt K mg) (h : At K mg "_law_value" s__law_value ["cell", "spots"]) (C__law_inks : Has P w K mg base 1 "_law_inks" ["spots"] (sp__law_inks K)) (C__law_layer : Has P w K mg base 1 "_law_layer" ["inks", "share", "spots", "wide"] (sp__law_layer K)) : Has P w K mg base 2 "_law_value" ["cell", "spots"] (sp__law_value K C) := by
  refine h.hasF sc__law_value (fun _ => rfl) fun f cdv Ar outer s G A a vs Q E hr hp hA hv hk => ?_
  obtain ⟨cell, sp⟩ := a
  replace hp : SpV sp := hp
  rcases hv with _ | ⟨hc, _ | ⟨hx, _ | _⟩⟩
  rename_i vc xs
  obtain rfl : vc = V.int cell := hc
  replace hx : Is K G (.l (vis sp)) xs := hx
  have sc := sc__law_value
  have hl := hp.l
  have b0 : 0 ≤ sp.getD 0 0 ∧ sp.getD 0 0 < 16 := hp.b 0 (by decide)
  have b1 : 0 ≤ sp.getD 1 0 ∧ sp.getD 1 0 < 40 := hp.b 1 (by decide)
  have b6 : 0 ≤ sp.getD 6 0 ∧ sp.getD 6 0 < 6 := hp.b 6 (by decide)
  have b7 : 0 ≤ sp.getD 7 0 ∧ sp.getD 7 0 < 34 := hp.b 7 (by decide)
  have b8 : 0 ≤ sp.getD 8 0 ∧ sp.getD 8 0 < 104 := hp.b 8 (by decide)
  have b9 : 0 ≤ sp.getD 9 0 ∧ sp.getD 9 0 < 34 := hp.b 9 (by decide)
  have b10 : 0 ≤ sp.getD 10 0 ∧ sp.getD 10 0 < 104 := hp.b 10 (by decide)
  obtain ⟨m0, m7⟩ := mx_bd b1.1 b1.2
  obtain ⟨l0, l33⟩ := lenV_bd b1.1 b1.2
  have ln : ((lenN sp : Nat) : Int) = lenV (sp.getD 1 0) := Int.toNat_of_nonneg l0
  have lnN : lenN sp ≤ 33 := by omega
  have sgl : sgV.length = 104 := by decide
  have spot : ∀ {σ : L2.St} {H' : Hp} (z : Int), Ex G H' → σ[1]? = some (some xs) → 0 ≤ z → z < 45 → Er K (tOp (rIxL K) (tVar 1) (tC (.int z))) σ H' (.i (sp.getD z.toNat 0)) := fun z e hv h0 h1 => er_spot z hv (hx.mono e) h0 (by rw [hl]; exact h1)
  refine ⟨_, (pss_cons (ps_set (i := 2) sc.nd rfl (Or.inl rfl) (pe_ix (ix_list_k (K := K)) (pe_lst (pa_cons (pe_callTy cr_int (by rfl) T.b_int (by decide +kernel) (pa_cons (pe_ix (ix_list_k (K := K)) (pv 1) pe_int (fun _ _ => rfl)) pa_nil)) (pa_cons pe_int (pa_cons pe_int (pa_cons pe_int (pa_cons pe_int (pa_cons pe_int (pa_cons pe_int pa_nil)))))))) (pe_callB cr_max2 (by rfl) T.b_max (by decide +kernel) (pa_cons pe_int (pa_cons (pe_op op_sub (pe_ix (ix_list_k (K := K)) (pv 1) pe_int (fun _ _ => rfl)) pe_int) pa_nil))) (fun _ _ => rfl)))
    (pss_cons (ps_set (i := 3) sc.nd rfl (Or.inl rfl) (pe_callH C__law_layer (hr.mono (by decide)) (pa_cons (pe_callH C__law_inks (hr.mono (by decide)) (pa_cons (pe_op op_cat (pe_lst (pa_cons (pe_ix (ix_list_k (K := K)) (pv 1) pe_int (fun _ _ => rfl)) (pa_cons pe_int pa_nil))) (pe_slice (sl_list_k (K := K)) (pv 1) (po_some pe_int) (po_some pe_int))) pa_nil)) (pa_cons (pe_ix (ix_list_k (K := K)) (pe_lst (pa_cons pe_int (pa_cons pe_int (pa_cons pe_int (pa_cons pe_int (pa_cons pe_int (pa_cons pe_int pa_nil))))))) (pe_ix (ix_list_k (K := K)) (pv 1) pe_int (fun _ _ => rfl)) (fun _ _ => rfl)) (pa_cons (pe_slice (sl_list_k (K := K)) (pv 1) (po_some pe_int) po_none) (pa_cons (pv 2) pa_nil))))))
    (pss_cons (ps_set (i := 4) sc.nd rfl (Or.inr rfl) (pe_strS [32, 33, 34, 35, 36, 38, 39, 40, 41, 42, 43, 44, 45, 46, 47, 48, 49, 50, 51, 52, 53, 54, 55, 56, 57, 58, 59, 60, 61, 62, 63, 64, 65, 66, 67, 68, 69, 70, 71, 72, 73, 74, 75, 76, 77, 78, 79, 80, 81, 82, 83, 84, 85, 86, 87, 88, 89, 90, 91, 92, 93, 94, 95, 96, 97, 98, 99, 100, 101, 102, 103, 104, 105, 106, 107, 108, 109, 110, 111, 112, 113, 114, 115, 116, 117, 118, 119, 120, 121, 122, 123, 124, 125, 126, 10] (by rfl)))
    (pss_cons (ps_set (i := 4) sc.nd rfl (Or.inr rfl) (pe_op op_addS (pv 4) (pe_strS [10, 32, 65, 95, 57, 43, 10, 32, 45] (by rfl))))
    (pss_cons (ps_set (i := 5) sc.nd rfl (Or.inl rfl) (pe_op op_mod (pe_callTy cr_int (by rfl) T.b_int (by decide +kernel) (pa_cons (pe_ix (ix_list_k (K := K)) (pv 1) pe_int (fun _ _ => rfl)) pa_nil)) (pe_callB cr_max2 (by rfl) T.b_max (by decide +kernel) (pa_cons pe_int (pa_cons (pv 2) pa_nil)))))
    (pss_cons (ps_set (i := 6) sc.nd rfl (Or.inl rfl) (pe_op op_mod (pe_callTy cr_int (by rfl) T.b_int (by decide +kernel) (pa_cons (pe_ix (ix_list_k (K := K)) (pv 1) pe_int (fun _ _ => rfl)) pa_nil)) (pe_callB cr_max2 (by rfl) T.b_max (by decide +kernel) (pa_cons pe_int (pa_cons (pv 2) pa_nil)))))
    (pss_cons (ps_set (i := 7) sc.nd rfl (Or.inl rfl) (pe_ix (ix_list_k (K := K)) (pv 1) pe_int (fun _ _ => rfl)))
    (pss_cons (ps_if (PW.pt (pw_or (pt_cmpR op_eq (pv 7) pe_int (nomark _)) (pw_or1 (pt_cmpR op_eq (pv 7) pe_int (nomark _))))) (pss_one (ps_set (i := 3) sc.nd rfl (Or.inl rfl) (pe_op op_addS (pe_op op_addS (pe_slice sl_str (pv 3) po_none (po_some (pv 5))) (pe_ix ix_str (pv 4) (pe_ix (ix_list_k (K := K)) (pv 1) pe_int (fun _ _ => rfl)) (fun _ _ => rfl))) (pe_slice sl_str (pv 3) (po_some (pe_op op_add (pv 5) pe_int)) po_none)))) pss_nil)
    (pss_cons (ps_if (pt_cmpR op_eq (pv 7) pe_int (nomark _)) (pss_one (ps_set (i := 3) sc.nd rfl (Or.inl rfl) (pe_op op_addS (pe_op op_addS (pe_slice sl_str (pv 3) po_none (po_some (pv 6))) (pe_ix ix_str (pv 4) (pe_ix (ix_list_k (K := K)) (pv 1) pe_int (fun _ _ => rfl)) (fun _ _ => rfl))) (pe_slice sl_str (pv 3) (po_some (pe_op op_add (pv 6) pe_int)) po_none)))) pss_nil)
    (pss_cons (ps_if (pt_cmpR op_eq (pv 7) pe_int (nomark _)) (pss_one (ps_set (i := 3) sc.nd rfl (Or.inl rfl) (pe_ix (ix_list_k (K := K)) (pe_lst (pa_cons (pe_op op_addS (pv 3) (pe_ix ix_str (pv 4) (pe_ix (ix_list_k (K := K)) (pv 1) pe_int (fun _ _ => rfl)) (fun _ _ => rfl))) (pa_cons (pe_op op_addS (pe_ix ix_str (pv 4) (pe_ix (ix_list_k (K := K)) (pv 1) pe_int (fun _ _ => rfl)) (fun _ _ => rfl)) (pv 3)) pa_nil))) (pe_op op_mod (pe_ix (ix_list_k (K := K)) (pv 1) pe_int (fun _ _ => rfl)) pe_int) (fun _ _ => rfl)))) pss_nil)
    (pss_cons (ps_if (pt_cmpR op_eq (pv 7) pe_int (nomark _)) (pss_one (ps_set (i := 3) sc.nd rfl (Or.inl rfl) (pe_bm_k (K := K) PySem.F.plainAttrs_str PySem.F.slot_str_join PySem.F.type_str_join (mt_join_k (K := K)) (pe_strS [] (by rfl)) (pa_cons (pe_lc (own := [("k", 8)]) (g := gName 8) (by rfl) sc.nd (pi_range1 (by rfl) T.b_range (pa_cons (pv 2) pa_nil)) (blkOk_by (N := ["cell", "spots", "length", "text", "signs", "place", "other", "kind", "k", "sign"]) (sc := defScope s__law_value) (own := [("k", 8)]) (by decide +kernel)) (fun _ _ _ _ _ => (pg_name (i := 8) sc.nd rfl (Or.inl rfl))) (fun _ _ _ _ _ => pts_nil) (fun _ _ _ _ _ => (pe_ix ix_str (pv 4) (pe_op op_mod (pe_callTy cr_int (by rfl) T.b_int (by decide +kernel) (pa_cons (pe_ix (ix_list_k (K := K)) (pv 1) (pe_op op_add pe_int (pv 8)) (fun _ _ => rfl)) pa_nil)) pe_int) (fun _ _ => rfl)))) pa_nil)))) pss_nil)
    (pss_cons (ps_if (pt_cmpR op_eq (pv 7) pe_int (nomark _)) (pss_one (ps_set (i := 3) sc.nd rfl (Or.inl rfl) (pe_op op_addS (pe_op op_addS (pe_slice sl_str (pv 3) po_none (po_some (pv 5))) (pe_ix (ix_list_k (K := K)) (pe_lst (pa_cons (pe_strS [45] (by rfl)) (pa_cons (pe_strS [122] (by rfl)) (pa_cons (pe_strS [46] (by rfl)) pa_nil)))) (pe_op op_mod (pe_ix (ix_list_k (K := K)) (pv 1) pe_int (fun _ _ => rfl)) pe_int) (fun _ _ => rfl))) (pe_slice sl_str (pv 3) (po_some (pe_op op_add (pv 5) pe_int)) po_none)))) pss_nil)
    (pss_cons (ps_if (pt_cmpR op_eq (pv 7) pe_int (nomark _)) (pss_one (ps_ret (pe_ix (ix_list_k (K := K)) (pe_lst (pa_cons (pe_callTy cr_int (by rfl) T.b_int (by decide +kernel) (pa_cons (pv 0) pa_nil)) (pa_cons (pe_un un_neg (pv 2)) (pa_cons (pv 2) pa_nil)))) (pe_op op_mod (pe_ix (ix_list_k (K := K)) (pv 1) pe_int (fun _ _ => rfl)) pe_int) (fun _ _ => rfl)))) pss_nil)
    (pss_cons (ps_if (pt_cmpR op_eq (pv 7) pe_int (nomark _)) (pss_one (ps_ret (pe_ix (ix_list_k (K := K)) (pe_lst (pa_cons pe_non (pa_cons pe_bl (pa_cons pe_bl pa_nil)))) (pe_op op_mod (pe_ix (ix_list_k (K := K)) (pv 1) pe_int (fun _ _ => rfl)) pe_int) (fun _ _ => rfl)))) pss_nil)
    (pss_cons (ps_if (pt_cmpR op_eq (pv 7) pe_int (nomark _)) (pss_one (ps_ret (pe_lc (own := [("sign", 9)]) (g := gName 9) (by rfl) sc.nd (pi_str (pv 3)) (blkOk_by (N := ["cell", "spots", "length", "text", "signs", "place", "other", "kind", "k", "sign"]) (sc := defScope s__law_value) (own := [("sign", 9)]) (by decide +kernel)) (fun _ _ _ _ _ => (pg_name (i := 9) sc.nd rfl (Or.inl rfl))) (fun _ _ _ _ _ => pts_nil) (fun _ _ _ _ _ => (pv 9))))) pss_nil)
    (pss_cons (ps_if (pt_cmpR op_eq (pv 7) pe_int (nomark _)) (pss_one (ps_ret (pe_callTy (cr_tuple_k (K := K)) (by rfl) T.b_tuple (by decide +kernel) (pa_cons (pe_lc (own := [("sign", 9)]) (g := gName 9) (by rfl) sc.nd (pi_str (pv 3)) (blkOk_by (N := ["cell", "spots", "length", "text", "signs", "place", "other", "kind", "k", "sign"]) (sc := defScope s__law_value) (own := [("sign", 9)]) (by decide +kernel)) (fun _ _ _ _ _ => (pg_name (i := 9) sc.nd rfl (Or.inl rfl))) (fun _ _ _ _ _ => pts_nil) (fun _ _ _ _ _ => (pv 9))) pa_nil)))) pss_nil)
    (pss_cons (ps_if (pt_cmpR op_eq (pv 7) pe_int (nomark _)) (pss_one (ps_ret (pe_ix (ix_list_k (K := K)) (pe_lst (pa_cons pe_dnewK (pa_cons (pe_disp (pps_cons (pv 3) (pv 3) pps_nil) (by rfl) (by rfl) (by simp) (by decide)) (pa_cons (pe_disp (pps_cons (pe_strS [97] (by rfl)) (pv 5) (pps_cons (pe_strS [46] (by rfl)) (pv 3) pps_nil)) (by rfl) (by rfl) (by simp) (by decide)) pa_nil)))) (pe_op op_mod (pe_ix (ix_list_k (K := K)) (pv 1) pe_int (fun _ _ => rfl)) pe_int) (fun _ _ => rfl)))) pss_nil)
    (pss_cons (ps_if (pt_cmpR op_eq (pv 7) pe_int (nomark _)) (pss_one (ps_ret (pe_ix (ix_list_k (K := K)) (pe_lst (pa_cons (pe_lst (pa_cons (pv 3) pa_nil)) (pa_cons (pe_tup (pa_cons (pv 3) pa_nil)) (pa_cons (pe_lst pa_nil) (pa_cons (pe_tup pa_nil) pa_nil))))) (pe_op op_mod (pe_ix (ix_list_k (K := K)) (pv 1) pe_int (fun _ _ => rfl)) pe_int) (fun _ _ => rfl)))) pss_nil)
    (pss_cons (ps_if (pt_cmpR op_eq (pv 7) pe_int (nomark _)) (pss_one (ps_ret (pe_ix (ix_list_k (K := K)) (pe_lst (pa_cons (pe_lst (pa_cons (pe_lst (pa_cons (pv 3) pa_nil)) (pa_cons (pv 3) pa_nil))) (pa_cons (pe_tup (pa_cons (pv 3) (pa_cons (pe_tup (pa_cons pe_non (pa_cons (pe_lst (pa_cons (pv 3) pa_nil)) pa_nil))) pa_nil))) (pa_cons (pe_lst (pa_cons (pv 5) (pa_cons (pv 3) pa_nil))) pa_nil)))) (pe_op op_mod (pe_ix (ix_list_k (K := K)) (pv 1) pe_int (fun _ _ => rfl)) pe_int) (fun _ _ => rfl)))) pss_nil)
    (pss_one (ps_ret (pv 3)))))))))))))))))))))), ?_⟩
  refine a_setv (K := K) (x := .int ((lenN sp : Nat) : Int)) (Er.to (er_op (d1 := .n (vis (lenL (sp.getD 1 0)))) (d2 := .i (mx 0 (sp.getD 1 0 - 33))) (er_lst (vs := vis (lenL (sp.getD 1 0))) (era_cons (er_cb (era_cons (spot 1 hA rfl (by decide) (by decide)) era_nil) rc_int) (era_cons er_c (era_cons er_c (era_cons er_c (era_cons er_c (era_cons er_c (era_cons er_c era_nil))))))) (by simp [lenL])) (er_cb (era_cons er_c (era_cons (er_op (spot 1 hA rfl (by decide) (by decide)) er_c ro_I0) era_nil)) rc_max2) (ro_ixIN m0 m7)) (by rw [ln]; rfl)) fun H1 e1 => ?_
  have E1 : Ex A H1 := e1
  refine a_setv (K := K) (x := .str (S (t0V sp))) (er_call (K := K) (inkT (ikL sp), shV sp, sp.drop 11, lenN sp) (era_cons (er_call (K := K) (ikL sp) (era_cons (Er.n2l (Er.to (er_op (d1 := .n (vis [sp.getD 2 0, 0])) (d2 := .n (vis ((sp.drop 3).take (6 - 3)))) (er_lst (vs := vis [sp.getD 2 0, 0]) (era_cons (spot 2 (hA.trans E1) rfl (by decide) (by decide)) (era_cons er_c era_nil)) (by simp)) (er_slvMid (n := 3) (m := 6) (er_var rfl (hx.mono (hA.trans E1))) er_c er_c (by decide) (by omega)) (ro_cat (by simp; omega))) (by simp [ikL, vis]))) era_nil) rfl (ikL_ok hp)) (era_cons (Er.to (er_op (d1 := .n (vis shL)) (d2 := .i (sp.getD 6 0)) (er_lst (vs := vis shL) (era_cons er_c (era_cons er_c (era_cons er_c (era_cons er_c (era_cons er_c (era_cons er_c era_nil)))))) (by decide)) (spot 6 (hA.trans E1) rfl (by decide) (by decide)) (ro_ixIN b6.1 b6.2)) rfl) (era_cons (Er.n2l (er_slvFrom (n := 11) (er_var rfl (hx.mono (hA.trans E1))) er_c)) (era_cons (er_v rfl) era_nil)))) rfl ⟨⟨(inkT_ok (ikL_ok hp)).1, Nat.le_trans (inkT_ok (ikL_ok hp)).2.1 (by decide)⟩, by show lenN sp ≤ (sp.drop 11).length; rw [List.length_drop]; omega, by show lenN sp ≤ 100; omega⟩) fun H2 e2 => ?_
  have E2 : Ex A H2 := E1.trans e2
  refine a_setv (K := K) (x := .str (S sg95)) er_c fun H3 e3 => ?_
  have E3 : Ex A H3 := E2.trans e3
  refine a_setv (K := K) (x := .str (S sgV)) (er_op (d1 := .s (S sg95)) (d2 := .s (S [10, 32, 65, 95, 57, 43, 10, 32, 45])) (er_v rfl) er_c (ro_addC (by decide))) fun H4 e4 => ?_
  have E4 : Ex A H4 := E3.trans e4
  refine a_setv (K := K) (x := .int ((plV sp 7 (lenN sp) : Nat) : Int)) (Er.to (er_op (d1 := .i (sp.getD 7 0)) (d2 := .i (mx 1 (lenN sp : Int))) (er_cb (era_cons (spot 7 (hA.trans E4) rfl (by decide) (by decide)) era_nil) rc_int) (er_cb (era_cons er_c (era_cons (er_v rfl) era_nil)) rc_max2) (ro_mod (mx1 _))) (by rw [plV_is])) fun H5 e5 => ?_
  have E5 : Ex A H5 := E4.trans e5
  refine a_setv (K := K) (x := .int ((plV sp 9 (lenN sp) : Nat) : Int)) (Er.to (er_op (d1 := .i (sp.getD 9 0)) (d2 := .i (mx 1 (lenN sp : Int))) (er_cb (era_cons (spot 9 (hA.trans E5) rfl (by decide) (by decide)) era_nil) rc_int) (er_cb (era_cons er_c (era_cons (er_v rfl) era_nil)) rc_max2) (ro_mod (mx1 _))) (by rw [plV_is])) fun H6 e6 => ?_
  have E6 : Ex A H6 := E5.trans e6
  refine a_setv (K := K) (x := .int (sp.getD 0 0)) (spot 0 (hA.trans E6) rfl (by decide) (by decide)) fun H7 e7 => ?_
  have E7 : Ex A H7 := E6.trans e7
  refine st_eq (σ' := [some (.int cell), some xs, some (.int ((lenN sp : Nat) : Int)), some (.str (S (t0V sp))), some (.str (S sgV)), some (.int ((plV sp 7 (lenN sp) : Nat) : Int)), some (.int ((plV sp 9 (lenN sp) : Nat) : Int)), some (.int (sp.getD 0 0)), none, none]) rfl ?_
  have T0 := (t0_ok hp).l
  have T1 := (t1_ok hp).l
  have T2 := (t2_ok hp).l
  have T4 := (t4_ok hp).l
  have T5 := (t5_ok hp).l
  refine a_ifText (K := K) (b := decide (sp.getD 0 0 = 3) || decide (sp.getD 0 0 = 4)) (t' := t1V sp) (et_orr (et1 (er_op (er_v rfl) er_c ro_eqI)) fun _ => et1 (er_op (er_v rfl) er_c ro_eqI)) (fun _ => er_edit (t := t0V sp) (pl := plV sp 7 (lenN sp)) (x := gAt sgV sp 8) (er_v rfl) (by omega) (er_v rfl) (er_sig (j := sp.getD 8 0) (er_v rfl) (spot 8 (hA.trans E7) rfl (by decide) (by decide)) b8.1 (by rw [sgl]; exact b8.2) (by rw [sgl]; decide))) rfl rfl fun H8 e8 => ?_
  have E8 : Ex A H8 := E7.trans e8
  refine st_eq (σ' := [some (.int cell), some xs, some (.int ((lenN sp : Nat) : Int)), some (.str (S (t1V sp))), some (.str (S sgV)), some (.int ((plV sp 7 (lenN sp) : Nat) : Int)), some (.int ((plV sp 9 (lenN sp) : Nat) : Int)), some (.int (sp.getD 0 0)), none, none]) rfl ?_
  refine a_ifText (K := K) (b := decide (sp.getD 0 0 = 4)) (t' := t2V sp) (et1 (er_op (er_v rfl) er_c ro_eqI)) (fun _ => er_edit (t := t1V sp) (pl := plV sp 9 (lenN sp)) (x := gAt sgV sp 10) (er_v rfl) (by omega) (er_v rfl) (er_sig (j := sp.getD 10 0) (er_v rfl) (spot 10 (hA.trans E8) rfl (by decide) (by decide)) b10.1 (by rw [sgl]; exact b10.2) (by rw [sgl]; decide))) rfl rfl fun H9 e9 => ?_
  have E9 : Ex A H9 := E8.trans e9
  refine st_eq (σ' := [some (.int cell), some xs, some (.int ((lenN sp : Nat) : Int)), some (.str (S (t2V sp))), some (.str (S sgV)), some (.int ((plV sp 7 (lenN sp) : Nat) : Int)), some (.int ((plV sp 9 (lenN sp) : Nat) : Int)), some (.int (sp.getD 0 0)), none, none]) rfl ?_
  refine a_ifText (K := K) (b := decide (sp.getD 0 0 = 5)) (t' := t3V sp) (et1 (er_op (er_v rfl) er_c ro_eqI)) (fun _ => er_ends (t := t2V sp) (g := [gAt sgV sp 8]) (i := sp.getD 9 0) (er_v rfl) (er_sig (j := sp.getD 8 0) (er_v rfl) (spot 8 (hA.trans E9) rfl (by decide) (by decide)) b8.1 (by rw [sgl]; exact b8.2) (by rw [sgl]; decide)) (er_op (spot 9 (hA.trans E9) rfl (by decide) (by decide)) er_c (ro_mod (by decide))) (by simp; omega)) rfl rfl fun H10 e10 => ?_
  have E10 : Ex A H10 := E9.trans e10
  refine st_eq (σ' := [some (.int cell), some xs, some (.int ((lenN sp : Nat) : Int)), some (.str (S (t3V sp))), some (.str (S sgV)), some (.int ((plV sp 7 (lenN sp) : Nat) : Int)), some (.int ((plV sp 9 (lenN sp) : Nat) : Int)), some (.int (sp.getD 0 0)), none, none]) rfl ?_
  refine a_ifText (K := K) (b := decide (sp.getD 0 0 = 6)) (t' := t4V sp) (et1 (er_op (er_v rfl) er_c ro_eqI)) (fun _ => er_bm (K := K) (d0 := .s (S [])) (ds := [.n ((anyV sp).map fun c => V.str (S [c]))]) er_c (era_cons (Er.to (er_lcR' (K := K) (n := lenN sp) (vs := [8]) (fun k => V.str (S [sgV.getD (sp.getD (11 + k) 0 % 95).toNat 0])) (era_cons (er_v rfl) era_nil) (by omega) (fun _ => rfl) (fun k H2 e2 hk2 => ?_)) (by rw [anyV, List.map_map]; rfl)) era_nil) (rm_joinC (by have := (any_ok hp).l; omega))) rfl rfl fun H11 e11 => ?_
  · have q0 := Int.emod_nonneg (sp.getD (11 + k) 0) (b := 95) (by decide)
    have q1 := Int.emod_lt_of_pos (sp.getD (11 + k) 0) (b := 95) (by decide)
    exact er_sig (j := sp.getD (11 + k) 0 % 95) (er_v rfl) (er_op (er_cb (era_cons (Er.to (er_op (d2 := .i ((11 + k : Nat) : Int)) (er_var rfl (hx.mono ((hA.trans E10).trans e2))) (Er.to (er_op er_c (er_v rfl) ro_I0) (by show Dd.i (11 + (k : Int)) = Dd.i _; congr 2)) (ro_ixI (by omega) (by omega))) (by rw [Int.toNat_natCast])) era_nil) rc_int) er_c (ro_mod (by decide))) q0 (by rw [sgl]; omega) (by rw [sgl]; decide)
  have E11 : Ex A H11 := E10.trans e11
  refine st_eq (σ' := [some (.int cell), some xs, some (.int ((lenN sp : Nat) : Int)), some (.str (S (t4V sp))), some (.str (S sgV)), some (.int ((plV sp 7 (lenN sp) : Nat) : Int)), some (.int ((plV sp 9 (lenN sp) : Nat) : Int)), some (.int (sp.getD 0 0)), none, none]) rfl ?_
  refine a_ifText (K := K) (b := decide (sp.getD 0 0 = 7)) (t' := t5V sp) (et1 (er_op (er_v rfl) er_c ro_eqI)) (fun _ => er_edit (t := t4V sp) (pl := plV sp 7 (lenN sp)) (x := ([45, 122, 46] : List Nat).getD (sp.getD 9 0 % 3).toNat 0) (er_v rfl) (by omega) (er_v rfl) (er_three (er_op (spot 9 (hA.trans E11) rfl (by decide) (by decide)) er_c (ro_mod (by decide))) (Int.emod_nonneg _ (by decide)) (Int.emod_lt_of_pos _ (by decide)))) rfl rfl fun H12 e12 => ?_
  have E12 : Ex A H12 := E11.trans e12
  refine st_eq (σ' := [some (.int cell), some xs, some (.int ((lenN sp : Nat) : Int)), some (.str (S (t5V sp))), some (.str (S sgV)), some (.int ((plV sp 7 (lenN sp) : Nat) : Int)), some (.int ((plV sp 9 (lenN sp) : Nat) : Int)), some (.int (sp.getD 0 0)), none, none]) rfl ?_
  have gs : ∀ {σ : L2.St} (z : Int), σ[1]? = some (some xs) → 0 ≤ z → z < 45 → Er K (tOp (rIxL K) (tVar 1) (tC (.int z))) σ G (.i (sp.getD z.toNat 0)) := fun z hv h0 h1 => er_spot z hv hx h0 (by rw [hl]; exact h1)
  have i3 : 0 ≤ sp.getD 7 0 % 3 ∧ sp.getD 7 0 % 3 < 3 := ⟨Int.emod_nonneg _ (by decide), Int.emod_lt_of_pos _ (by decide)⟩
  have i4 : 0 ≤ sp.getD 7 0 % 4 ∧ sp.getD 7 0 % 4 < 4 := ⟨Int.emod_nonneg _ (by decide), Int.emod_lt_of_pos _ (by decide)⟩
  have fin : ∀ {D : Ends} {σ : L2.St} {H : Hp} {te : TE} {th : Th}, D.rt = Q → Ex A H → Ef K te σ G (thD C th) → th = valM cell sp → tRet te D σ H := fun {D σ H te th} hD e he ht => s_ret (K := K) (G := G) he (hA.trans e) (congrArg (thD C) ht) fun v G' A' st z => by rw [hD]; exact hk v G' A' ((Step.on hA e).trans st) z
  refine a_when (K := K) (b := decide (sp.getD 0 0 = 8)) (et1 (er_op (er_v rfl) er_c ro_eqI)) (fun hb H13 e13 => ?_) fun h8 H13 e13 => ?_
  · refine fin rfl (E12.trans e13) (ef_at (picks8 cell (lenN sp : Int) (lenN sp : Int)) (efa_cons (ef_flat (er_cb (era_cons (er_v rfl) era_nil) rc_int)) (efa_cons (ef_flat (er_neg (er_v rfl))) (efa_cons (ef_flat (er_v rfl)) efa_nil))) (er_op (gs 7 rfl (by decide) (by decide)) er_c (ro_mod (by decide))) i3.1 i3.2 (by simp [picks8])) ?_
    unfold valM
    rw [hb]
    rfl
  have E13 : Ex A H13 := E12.trans e13
  refine a_when (K := K) (b := decide (sp.getD 0 0 = 9)) (et1 (er_op (er_v rfl) er_c ro_eqI)) (fun hb H14 e14 => ?_) fun h9 H14 e14 => ?_
  · refine fin rfl (E13.trans e14) (ef_at picks9 (efa_cons (ef_flat er_c) (efa_cons (ef_flat er_c) (efa_cons (ef_flat er_c) efa_nil))) (er_op (gs 7 rfl (by decide) (by decide)) er_c (ro_mod (by decide))) i3.1 i3.2 (by decide)) ?_
    unfold valM
    rw [h8, hb]
    rfl
  have E14 : Ex A H14 := E13.trans e14
  refine a_when (K := K) (b := decide (sp.getD 0 0 = 10)) (et1 (er_op (er_v rfl) er_c ro_eqI)) (fun hb H15 e15 => ?_) fun h10 H15 e15 => ?_
  · refine fin rfl (E14.trans e15) (th := .c (.N ((t5V sp).map fun c => Dd.s (S [c])))) (ef_letters (t := t5V sp) (er_v rfl) (by omega) (fun _ => rfl) (fun _ => rfl)) ?_
    unfold valM
    rw [h8, h9, hb]
    rfl
  have E15 : Ex A H15 := E14.trans e15
  refine a_when (K := K) (b := decide (sp.getD 0 0 = 11)) (et1 (er_op (er_v rfl) er_c ro_eqI)) (fun hb H16 e16 => ?_) fun h11 H16 e16 => ?_
  · refine fin rfl (E15.trans e16) (th := .c (.U ((t5V sp).map fun c => Dd.s (S [c])))) (ef_cb (efa_cons (ef_letters (t := t5V sp) (er_v rfl) (by omega) (fun _ => rfl) (fun _ => rfl)) efa_nil) rf_tupN) ?_
    unfold valM
    rw [h8, h9, h10, hb]
    rfl
  have E16 : Ex A H16 := E15.trans e16
  refine a_when (K := K) (b := decide (sp.getD 0 0 = 12)) (et1 (er_op (er_v rfl) er_c ro_eqI)) (fun hb H17 e17 => ?_) fun h12 H17 e17 => ?_
  · refine fin rfl (E16.trans e17) (ef_at2 (C := C) (ds := [thD C (.k []), thD C (.k [(.inr (S (t5V sp)), .str (S (t5V sp)))]), thD C (.k [(.inr (S [97]), .int (plV sp 7 (lenN sp) : Int)), (.inr (S [46]), .str (S (t5V sp)))])]) (picks12 (t5V sp) (plV sp 7 (lenN sp) : Int) [46]) rfl (efa_cons ef_d0 (efa_cons (ef_d1 (er_v rfl) (er_v rfl)) (efa_cons (ef_d2 (ne_key (by decide)) er_c (er_v rfl) er_c (er_v rfl)) efa_nil))) (er_op (gs 7 rfl (by decide) (by decide)) er_c (ro_mod (by decide))) i3.1 i3.2 (by simp [picks12])) ?_
    unfold valM
    rw [h8, h9, h10, h11, hb]
    rfl
  have E17 : Ex A H17 := E16.trans e17
  refine a_when (K := K) (b := decide (sp.getD 0 0 = 13)) (et1 (er_op (er_v rfl) er_c ro_eqI)) (fun hb H18 e18 => ?_) fun h13 H18 e18 => ?_
  · refine fin rfl (E17.trans e18) (ef_at (picks13 (t5V sp)) (efa_cons (ef_N (efa_cons (ef_flat (er_v rfl)) efa_nil) (by simp)) (efa_cons (ef_U (efa_cons (ef_flat (er_v rfl)) efa_nil) (by simp)) (efa_cons (ef_N efa_nil (by simp)) (efa_cons (ef_U efa_nil (by simp)) efa_nil)))) (er_op (gs 7 rfl (by decide) (by decide)) er_c (ro_mod (by decide))) i4.1 i4.2 (by simp [picks13])) ?_
    unfold valM
    rw [h8, h9, h10, h11, h12, hb]
    rfl
  have E18 : Ex A H18 := E17.trans e18
  refine a_when (K := K) (b := decide (sp.getD 0 0 = 14)) (et1 (er_op (er_v rfl) er_c ro_eqI)) (fun hb H19 e19 => ?_) fun h14 H19 e19 => ?_
  · refine fin rfl (E18.trans e19) (ef_at (picks14 (t5V sp) (plV sp 7 (lenN sp) : Int)) (efa_cons (ef_N (efa_cons (ef_N (efa_cons (ef_flat (er_v rfl)) efa_nil) (by simp)) (efa_cons (ef_flat (er_v rfl)) efa_nil)) (by simp)) (efa_cons (ef_U (efa_cons (ef_flat (er_v rfl)) (efa_cons (ef_U (efa_cons (ef_flat er_c) (efa_cons (ef_N (efa_cons (ef_flat (er_v rfl)) efa_nil) (by simp)) efa_nil)) (by simp)) efa_nil)) (by simp)) (efa_cons (ef_N (efa_cons (ef_flat (er_v rfl)) (efa_cons (ef_flat (er_v rfl)) efa_nil)) (by simp)) efa_nil))) (er_op (gs 7 rfl (by decide) (by decide)) er_c (ro_mod (by decide))) i3.1 i3.2 (by simp [picks14])) ?_
    unfold valM
    rw [h8, h9, h10, h11, h12, h13, hb]
    rfl
  · refine fin rfl (E18.trans e19) (th := .t (t5V sp)) (ef_flat (er_v rfl)) ?_
    unfold valM
    rw [h8, h9, h10, h11, h12, h13, h14]
    rfl
end
end Mi

set_option maxHeartbeats 0
namespace Mi
open PySem PySem.Spec PyProof.Rows L2 Evl
local macro_rules | `(tactic| walk_at "side") => `(tactic| (first | assumption | omega | exact rfl | decide | (simp only [List.length_cons, List.length_nil, List.length_map, List.length_append, List.length_replicate] <;> omega)))
local macro_rules | `(tactic| walk_at "ro") => `(tactic| (first
  | with_reducible exact ro_I0
  | with_reducible exact ro_1018
  | with_reducible exact ro_neC
  | with_reducible exact ro_eqC
  | with_reducible exact ro_neI
  | with_reducible exact ro_eqI
  | with_reducible exact ro_neB
  | with_reducible exact ro_eqB
  | ((with_reducible apply ro_mod); (walk_at "side"))
  | ((with_reducible apply ro_div) <;> (walk_at "side"))
  | ((with_reducible apply ro_divW) <;> (walk_at "side"))
  | with_reducible exact ro_1012
  | with_reducible exact ro_1015
  | ((with_reducible apply ro_mulL) <;> (walk_at "side"))
  | ((with_reducible apply ro_mulR) <;> (walk_at "side"))
  | ((with_reducible apply ro_addC); (walk_at "side"))
  | ((with_reducible apply ro_ixC) <;> (walk_at "side"))
  | ((with_reducible apply ro_ixI) <;> (walk_at "side"))
  | ((with_reducible apply ro_ixIN) <;> (walk_at "side"))
  | ((with_reducible apply ro_ixT2) <;> (walk_at "side"))
  | ((with_reducible apply ro_ixG) <;> (walk_at "side"))
  | ((with_reducible apply ro_eq); exact rfl)
  | ((with_reducible apply ro_ne); exact rfl)
  | with_reducible exact ro_isN
  | with_reducible exact ro_notN
  | with_reducible exact ro_eqL
  | with_reducible exact ro_neL
  | with_reducible exact ro_eqU
  | ((with_reducible apply ro_cat); (walk_at "side"))
  | with_reducible exact ro_inLi
  | with_reducible exact ro_inNi
  | with_reducible exact ro_inUi
  | ((with_reducible apply ro_inL) <;> (walk_at "side"))
  | ((with_reducible apply ro_inN) <;> (walk_at "side"))
  | ((with_reducible apply ro_inU) <;> (walk_at "side"))))
local macro_rules | `(tactic| walk_at "rc") => `(tactic| (first
  | with_reducible exact rc_int
  | with_reducible exact rc_intB
  | with_reducible exact rc_max2
  | ((with_reducible apply rc_lenC); (walk_at "side"))
  | with_reducible exact rc_lenI
  | with_reducible exact rc_lenT
  | with_reducible exact rc_lenIN
  | with_reducible exact rc_lenTN
  | with_reducible exact rc_lenL
  | with_reducible exact rc_lenN
  | with_reducible exact rc_lenU
  | with_reducible exact rc_listL
  | with_reducible exact rc_listU
  | with_reducible exact rc_tupL
  | with_reducible exact rc_tupN
  | ((with_reducible apply rc_isi_int); decide +kernel)
  | ((with_reducible apply rc_isi_str); decide +kernel)
  | ((with_reducible apply rc_isi_bl); decide +kernel)
  | ((with_reducible apply rc_isi_non); decide +kernel)
  | ((with_reducible apply rc_isi_u); decide +kernel)
  | ((with_reducible apply rc_isi_l); decide +kernel)))
local macro_rules | `(tactic| walk_at "er") => `(tactic| (first
  | ((with_reducible apply er_var); (exact rfl); assumption)
  | ((with_reducible apply er_v); exact rfl)
  | with_reducible exact er_c
  | ((with_reducible apply er_pick); (walk_at "er"); (walk_at "er"); (walk_at "er"))
  | ((with_reducible apply er_op); (walk_at "er"); (walk_at "er"); (walk_at "ro"))
  | ((with_reducible apply er_cb); (walk_at "era"); (walk_at "rc"))
  | ((with_reducible apply er_lst'); (walk_at "era"); (exact rfl); (walk_at "side"))
  | ((with_reducible apply er_tup'); (walk_at "era"); (exact rfl); (walk_at "side"))
  | ((with_reducible apply er_notV); (walk_at "er"))
  | ((with_reducible apply er_andV); (walk_at "er"); (intro _; (walk_at "er")))
  | ((with_reducible apply er_orV); (walk_at "er"); (intro _; (walk_at "er")))
  | ((with_reducible apply er_ite); (walk_at "et"); (intro _; (walk_at "er")); (intro _; (walk_at "er")))))
local macro_rules | `(tactic| walk_at "era") => `(tactic| (first
  | with_reducible exact era_nil
  | ((with_reducible apply era_cons); (walk_at "er"); (walk_at "era"))))
local macro_rules | `(tactic| walk_at "et") => `(tactic| (first
  | ((with_reducible apply et_an); (walk_at "et"); (intro _; (walk_at "et")))
  | ((with_reducible apply et_orr); (walk_at "et"); (intro _; (walk_at "et")))
  | ((with_reducible apply et_nt); (walk_at "et"))
  | ((with_reducible apply et1); (walk_at "er"))
  | ((with_reducible apply et2); (walk_at "er"))))

section
variable {P : Program} {w : World} {K : PySem.W.Frag} {mg : Str → Option Value} {base : Heap}
/-! ### str(i), text.upper() -/
def strI (i : Int) : List Nat := (Str.ofString (toString i)).cps.toList
theorem S_back (x : Str) : S x.cps.toList = x := rfl
theorem strI_S (i : Int) : S (strI i) = Str.ofString (toString i) := S_back _
def upT (t : List Nat) : List Nat := (Txt.upper (S t)).cps.toList
theorem upT_len (t : List Nat) : (upT t).length ≤ 3 * t.length := by
  have h := PyProof.Rows.len_upper (S t)
  have e : (S t).length = t.length := S_len t
  rw [e] at h
  have e2 : (upT t).length = (Txt.upper (S t)).length := by
    unfold upT Str.length
    rw [Array.length_toList]
  omega
theorem rc_str {i : Int} (h0 : 0 ≤ i) (h1 : i < 1000) : Rc K (fun xs H Q => ∃ i, xs = [V.int i] ∧ i.natAbs.log2 < 1920 ∧ Q (V.str (Str.ofString (toString i))) H) [.i i] (.s (S (strI i))) := fun vs H1 h Q q => by
  rcases h with _ | ⟨h1, _ | _⟩
  obtain rfl : _ = V.int i := h1
  refine ⟨i, rfl, ?_, q _ H1 (Ex.refl H1) rfl⟩
  have := Nat.log2_le_self i.natAbs
  omega
theorem er_upper {σ : L2.St} {H : Hp} {to : TE} {t : List Nat} (h : Er K to σ H (.s (S t))) (hz : t.length ≤ 1000) : Er K (tM0 (fun x xs H Q => ∃ a, x = V.str a ∧ xs = [] ∧ a.length ≤ 5592405 ∧ Q (V.str (Txt.upper a)) H) to) σ H (.s (S (upT t))) := fun H1 e Q q =>
  h H1 e _ fun v H2 e2 z => by
    obtain rfl : v = V.str (S t) := z
    exact ⟨⟨_, rfl⟩, _, rfl, rfl, by rw [S_len]; omega, q _ H2 e2 rfl⟩
/-- ['', a, b, c][i] -/
theorem er_four {σ : L2.St} {H : Hp} {ta tb tc ti : TE} {a b c : List Nat} {i : Int} (h1 : Er K ta σ H (.s (S a))) (h2 : Er K tb σ H (.s (S b))) (h3 : Er K tc σ H (.s (S c))) (hi : Er K ti σ H (.i i)) (h0 : 0 ≤ i) (h4 : i < 4) :
    Er K (tOp (rIxL K) (tLst (tCons (tC (.str (S []))) (tCons ta (tCons tb (tCons tc tNil))))) ti) σ H (.s (S (([[], a, b, c] : List (List Nat)).getD i.toNat []))) := by
  refine Er.to (er_op (d1 := .n [.str (S []), .str (S a), .str (S b), .str (S c)]) (er_lst (vs := [.str (S []), .str (S a), .str (S b), .str (S c)]) (era_cons er_c (era_cons h1 (era_cons h2 (era_cons h3 era_nil)))) (by simp)) hi (ro_ixG h0 h4)) ?_
  have : i = 0 ∨ i = 1 ∨ i = 2 ∨ i = 3 := by omega
  rcases this with rfl | rfl | rfl | rfl <;> rfl
abbrev s__law_word : Stmt := topS 33
theorem sc__law_word : FnScope ["cell", "spots", "signs", "text", "place", "other", "kind", "digit", "sign"] ["cell", "spots"] (defScope s__law_word) := ⟨rfl, rfl, rfl, by decide +kernel, rfl, by decide +kernel, by decide +kernel⟩

def sgW : List Nat := sg95 ++ [10, 32, 65, 95, 57, 45, 10, 32, 45]
def szW : List Int := [18, 8, 26] ++ List.replicate 7 36 ++ [12, 104, 12, 104, 11] ++ List.replicate 10 95
structure SpW (sp : List Int) : Prop where
  l : sp.length = 25
  b : ∀ i, i < 25 → 0 ≤ sp.getD i 0 ∧ sp.getD i 0 < szW.getD i 0
theorem drop1 (sp : List Int) (k : Nat) : (sp.drop 1).getD k 0 = sp.getD (1 + k) 0 := by
  rw [List.getD_eq_getElem?_getD, List.getD_eq_getElem?_getD, List.getElem?_drop]
theorem nmW_ok {sp : List Int} (h : SpW sp) : NmOk (sp.drop 1) := by
  have hl := h.l
  have b1 : 0 ≤ sp.getD 1 0 ∧ sp.getD 1 0 < 8 := h.b 1 (by decide)
  have e0 : (sp.drop 1).getD 0 0 = sp.getD 1 0 := drop1 sp 0
  have len : (sp.drop 1).length = 24 := by rw [List.length_drop, hl]
  have n8 : nameN (sp.drop 1) ≤ 8 := by
    unfold nameN
    omega
  refine ⟨by omega, by rw [e0]; exact b1, by omega, fun k hk => ?_⟩
  rw [drop1]
  have q := h.b (1 + (1 + k)) (by omega)
  have s : ∀ j, j < 8 → szW.getD (1 + (1 + j)) 0 ≤ 36 := by decide
  have := s k (by omega)
  omega
def t0W (sp : List Int) : List Nat := nameT (sp.drop 1)
def plW (sp : List Int) (j : Nat) : Nat := (sp.getD j 0 % ((t0W sp).length : Int)).toNat
def t1W (sp : List Int) : List Nat := if (decide (sp.getD 0 0 = 3) || decide (sp.getD 0 0 = 4)) = true then ed (t0W sp) (plW sp 10) (gAt sgW sp 11) else t0W sp
def t2W (sp : List Int) : List Nat := if decide (sp.getD 0 0 = 4) = true then ed (t1W sp) (plW sp 12) (gAt sgW sp 13) else t1W sp
def t3W (sp : List Int) : List Nat := if decide (sp.getD 0 0 = 5) = true then (if sp.getD 12 0 % 2 = 0 then t2W sp ++ [gAt sgW sp 11] else [gAt sgW sp 11] ++ t2W sp) else t2W sp
def digW (sp : List Int) : List Int := (sp.drop 15).take (15 + (sp.getD 14 0).toNat - 15)
def anyW (sp : List Int) : List Nat := (digW sp).map fun d => sgW.getD d.toNat 0
def t4W (sp : List Int) : List Nat := if decide (sp.getD 0 0 = 6) = true then anyW sp else t3W sp
def t5W (sp : List Int) : List Nat := if decide (sp.getD 0 0 = 7) = true then ((t4W sp ++ t4W sp) ++ [97, 49, 98, 50, 99, 51, 100, 52]).take (8 + (sp.getD 12 0 % 2).toNat) else t4W sp
def pick8 (sp : List Int) (t : List Nat) : List Nat := ([[], strI (sp.getD 11 0) ++ t, upT t, (t ++ [32]) ++ t] : List (List Nat)).getD (sp.getD 12 0 % 4).toNat []
def t6W (sp : List Int) : List Nat := if decide (sp.getD 0 0 = 8) = true then pick8 sp (t5W sp) else t5W sp
theorem sgW_small : ∀ x ∈ sgW, x < 200 := by decide
theorem w0_ok {sp : List Int} (h : SpW sp) : TOk 8 (t0W sp) ∧ 1 ≤ (t0W sp).length := nameT_ok (nmW_ok h)
theorem w1_ok {sp : List Int} (h : SpW sp) : TOk 9 (t1W sp) := by
  unfold t1W
  split
  · exact ed_ok (w0_ok h).1 (getD_small sgW_small _)
  · exact (w0_ok h).1.mono (by decide)
theorem w2_ok {sp : List Int} (h : SpW sp) : TOk 10 (t2W sp) := by
  unfold t2W
  split
  · exact ed_ok (w1_ok h) (getD_small sgW_small _)
  · exact (w1_ok h).mono (by decide)
theorem w3_ok {sp : List Int} (h : SpW sp) : TOk 11 (t3W sp) := by
  unfold t3W
  split
  · split
    · exact app_ok (w2_ok h) (one_ok (getD_small sgW_small _))
    · exact (app_ok (one_ok (getD_small sgW_small _)) (w2_ok h)).mono (by decide)
  · exact (w2_ok h).mono (by decide)
theorem anyW_ok {sp : List Int} (h : SpW sp) : TOk 11 (anyW sp) := by
  have b14 : 0 ≤ sp.getD 14 0 ∧ sp.getD 14 0 < 11 := h.b 14 (by decide)
  refine ⟨?_, fun x hx => ?_⟩
  · rw [anyW, List.length_map, digW, List.length_take]
    omega
  · unfold anyW at hx
    obtain ⟨k, _, rfl⟩ := List.mem_map.mp hx
    exact getD_small sgW_small _
theorem w4_ok {sp : List Int} (h : SpW sp) : TOk 11 (t4W sp) := by
  unfold t4W
  split
  · exact anyW_ok h
  · exact w3_ok h
theorem w5_ok {sp : List Int} (h : SpW sp) : TOk 30 (t5W sp) := by
  unfold t5W
  split
  · have q := app_ok (app_ok (w4_ok h) (w4_ok h)) (b := [97, 49, 98, 50, 99, 51, 100, 52]) (m := 8) ⟨by decide, by decide⟩
    exact ⟨Nat.le_trans (List.length_take_le' _ _) q.l, fun x hx => q.c x (List.mem_of_mem_take hx)⟩
  · exact (w4_ok h).mono (by decide)
theorem strI_few : ∀ n : Nat, n < 104 → (strI (n : Int)).length ≤ 100 := by decide +kernel
theorem strI_len {i : Int} (h0 : 0 ≤ i) (h1 : i < 104) : (strI i).length ≤ 100 := by
  have := strI_few i.toNat (by omega)
  rwa [Int.toNat_of_nonneg h0] at this
theorem w6_len {sp : List Int} (h : SpW sp) : (t6W sp).length ≤ 1000 := by
  have b11 : 0 ≤ sp.getD 11 0 ∧ sp.getD 11 0 < 104 := h.b 11 (by decide)
  have h5 := (w5_ok h).l
  have hs := strI_len b11.1 b11.2
  have hu := upT_len (t5W sp)
  unfold t6W
  split
  · have i4 : 0 ≤ sp.getD 12 0 % 4 ∧ sp.getD 12 0 % 4 < 4 := ⟨Int.emod_nonneg _ (by decide), Int.emod_lt_of_pos _ (by decide)⟩
    have m : pick8 sp (t5W sp) ∈ ([[], strI (sp.getD 11 0) ++ t5W sp, upT (t5W sp), (t5W sp ++ [32]) ++ t5W sp] : List (List Nat)) := mem_getD (by simp; omega)
    generalize pick8 sp (t5W sp) = y at m
    simp only [List.mem_cons, List.not_mem_nil, or_false] at m
    rcases m with rfl | rfl | rfl | rfl
    · decide
    · rw [List.length_append]; omega
    · omega
    · simp only [List.length_append, List.length_cons, List.length_nil]; omega
  · omega
theorem w6_ok {sp : List Int} (h : SpW sp) (h8 : decide (sp.getD 0 0 = 8) = false) : TOk 30 (t6W sp) := by
  unfold t6W
  rw [h8]
  exact w5_ok h
def valW (cell : Int) (sp : List Int) : Th :=
  if decide (sp.getD 0 0 = 9) = true then (picks8 cell ((t6W sp).length : Int) (sp.getD 11 0)).getD (sp.getD 12 0 % 3).toNat .o
  else if decide (sp.getD 0 0 = 10) = true then picks9.getD (sp.getD 12 0 % 3).toNat .o
  else if decide (sp.getD 0 0 = 11) = true then .c (.N ((t6W sp).map fun c => Dd.s (S [c])))
  else if decide (sp.getD 0 0 = 12) = true then .c (.U ((t6W sp).map fun c => Dd.s (S [c])))
  else if decide (sp.getD 0 0 = 13) = true then (picks12 (t6W sp) (plW sp 10 : Int) [98]).getD (sp.getD 12 0 % 3).toNat .o
  else if decide (sp.getD 0 0 = 14) = true then (picks13 (t6W sp)).getD (sp.getD 12 0 % 4).toNat .o
  else if decide (sp.getD 0 0 = 15) = true then (picks14 (t6W sp) (plW sp 10 : Int)).getD (sp.getD 12 0 % 3).toNat .o
  else .t (t6W sp)
theorem not8 {x : Int} {n : Int} (h : decide (x = n) = true) (hn : n ≠ 8) : decide (x = 8) = false := by
  have := of_decide_eq_true h
  exact decide_eq_false (by omega)
theorem valW_ok {cell : Int} {sp : List Int} (h : SpW sp) : Fit (valW cell sp) := by
  unfold valW
  split
  · exact fit_at fit8 (mod_lt (m := 3) (by decide))
  split
  · exact fit_at fit9 (mod_lt (m := 3) (by decide))
  split
  · rename_i q
    exact fit10 (w6_ok h (not8 q (by decide)))
  split
  · rename_i q
    exact fit11 (w6_ok h (not8 q (by decide)))
  split
  · exact fit_at (fit12 (ne_key (by decide))) (mod_lt (m := 3) (by decide))
  split
  · rename_i q
    exact fit_at (fit13 (w6_ok h (not8 q (by decide)))) (mod_lt (m := 4) (by decide))
  split
  · rename_i q
    exact fit_at (fit14 (w6_ok h (not8 q (by decide)))) (mod_lt (m := 3) (by decide))
  · exact ⟨w6_len h, by simp⟩
abbrev sp__law_word (K : PySem.W.Frag) (C : Addr) : Sp := spF K (fun a : Int × List Int => SpW a.2) (fun a => [.i a.1, .l (vis a.2)]) fun a => thD C (valW a.1 a.2)
theorem has__law_word {C : Addr} (T : Txt K mg) (h : At K mg "_law_word" s__law_word ["cell", "spots"]) (C__law_name : Has P w K mg base 1 "_law_name" ["spots"] (sp__law_name K)) : Has P w K mg base 2 "_law_word" ["cell", "spots"] (sp__law_word K C) := by
  refine h.hasF sc__law_word (fun _ => rfl) fun f cdv Ar outer s G A a vs Q E hr hp hA hv hk => ?_
  obtain ⟨cell, sp⟩ := a
  replace hp : SpW sp := hp
  rcases hv with _ | ⟨hc, _ | ⟨hx, _ | _⟩⟩
  rename_i vc xs
  obtain rfl : vc = V.int cell := hc
  replace hx : Is K G (.l (vis sp)) xs := hx
  have sc := sc__law_word
  have hl := hp.l
  have b11 : 0 ≤ sp.getD 11 0 ∧ sp.getD 11 0 < 104 := hp.b 11 (by decide)
  have b13 : 0 ≤ sp.getD 13 0 ∧ sp.getD 13 0 < 104 := hp.b 13 (by decide)
  have b14 : 0 ≤ sp.getD 14 0 ∧ sp.getD 14 0 < 11 := hp.b 14 (by decide)
  have sgl : sgW.length = 104 := by decide
  have T0 := (w0_ok hp).1.l
  have T0b := (w0_ok hp).2
  have T1 := (w1_ok hp).l
  have T2 := (w2_ok hp).l
  have T4 := (w4_ok hp).l
  have T5 := (w5_ok hp).l
  have T6 := w6_len hp
  have m2 : 0 ≤ sp.getD 12 0 % 2 ∧ sp.getD 12 0 % 2 < 2 := ⟨Int.emod_nonneg _ (by decide), Int.emod_lt_of_pos _ (by decide)⟩
  have i3 : 0 ≤ sp.getD 12 0 % 3 ∧ sp.getD 12 0 % 3 < 3 := ⟨Int.emod_nonneg _ (by decide), Int.emod_lt_of_pos _ (by decide)⟩
  have i4 : 0 ≤ sp.getD 12 0 % 4 ∧ sp.getD 12 0 % 4 < 4 := ⟨Int.emod_nonneg _ (by decide), Int.emod_lt_of_pos _ (by decide)⟩
  have plI : ∀ j, ((plW sp j : Nat) : Int) = sp.getD j 0 % ((t0W sp).length : Int) := fun j => Int.toNat_of_nonneg (Int.emod_nonneg _ (by omega))
  have spot : ∀ {σ : L2.St} {H' : Hp} (z : Int), Ex G H' → σ[1]? = some (some xs) → 0 ≤ z → z < 25 → Er K (tOp (rIxL K) (tVar 1) (tC (.int z))) σ H' (.i (sp.getD z.toNat 0)) := fun z e hv h0 h1 => er_spot z hv (hx.mono e) h0 (by rw [hl]; exact h1)
  refine ⟨_, (pss_cons (ps_set (i := 2) sc.nd rfl (Or.inr rfl) (pe_strS [32, 33, 34, 35, 36, 38, 39, 40, 41, 42, 43, 44, 45, 46, 47, 48, 49, 50, 51, 52, 53, 54, 55, 56, 57, 58, 59, 60, 61, 62, 63, 64, 65, 66, 67, 68, 69, 70, 71, 72, 73, 74, 75, 76, 77, 78, 79, 80, 81, 82, 83, 84, 85, 86, 87, 88, 89, 90, 91, 92, 93, 94, 95, 96, 97, 98, 99, 100, 101, 102, 103, 104, 105, 106, 107, 108, 109, 110, 111, 112, 113, 114, 115, 116, 117, 118, 119, 120, 121, 122, 123, 124, 125, 126, 10] (by rfl)))
    (pss_cons (ps_set (i := 2) sc.nd rfl (Or.inr rfl) (pe_op op_addS (pv 2) (pe_strS [10, 32, 65, 95, 57, 45, 10, 32, 45] (by rfl))))
    (pss_cons (ps_set (i := 3) sc.nd rfl (Or.inl rfl) (pe_callH C__law_name (hr.mono (by decide)) (pa_cons (pe_slice (sl_list_k (K := K)) (pv 1) (po_some pe_int) po_none) pa_nil)))
    (pss_cons (ps_set (i := 4) sc.nd rfl (Or.inl rfl) (pe_op op_mod (pe_ix (ix_list_k (K := K)) (pv 1) pe_int (fun _ _ => rfl)) (pe_callB cr_lenStr (by rfl) T.b_len (by decide +kernel) (pa_cons (pv 3) pa_nil))))
    (pss_cons (ps_set (i := 5) sc.nd rfl (Or.inl rfl) (pe_op op_mod (pe_ix (ix_list_k (K := K)) (pv 1) pe_int (fun _ _ => rfl)) (pe_callB cr_lenStr (by rfl) T.b_len (by decide +kernel) (pa_cons (pv 3) pa_nil))))
    (pss_cons (ps_set (i := 6) sc.nd rfl (Or.inl rfl) (pe_ix (ix_list_k (K := K)) (pv 1) pe_int (fun _ _ => rfl)))
    (pss_cons (ps_if (PW.pt (pw_or (pt_cmpR op_eq (pv 6) pe_int (nomark _)) (pw_or1 (pt_cmpR op_eq (pv 6) pe_int (nomark _))))) (pss_one (ps_set (i := 3) sc.nd rfl (Or.inl rfl) (pe_op op_addS (pe_op op_addS (pe_slice sl_str (pv 3) po_none (po_some (pv 4))) (pe_ix ix_str (pv 2) (pe_ix (ix_list_k (K := K)) (pv 1) pe_int (fun _ _ => rfl)) (fun _ _ => rfl))) (pe_slice sl_str (pv 3) (po_some (pe_op op_add (pv 4) pe_int)) po_none)))) pss_nil)
    (pss_cons (ps_if (pt_cmpR op_eq (pv 6) pe_int (nomark _)) (pss_one (ps_set (i := 3) sc.nd rfl (Or.inl rfl) (pe_op op_addS (pe_op op_addS (pe_slice sl_str (pv 3) po_none (po_some (pv 5))) (pe_ix ix_str (pv 2) (pe_ix (ix_list_k (K := K)) (pv 1) pe_int (fun _ _ => rfl)) (fun _ _ => rfl))) (pe_slice sl_str (pv 3) (po_some (pe_op op_add (pv 5) pe_int)) po_none)))) pss_nil)
    (pss_cons (ps_if (pt_cmpR op_eq (pv 6) pe_int (nomark _)) (pss_one (ps_set (i := 3) sc.nd rfl (Or.inl rfl) (pe_ix (ix_list_k (K := K)) (pe_lst (pa_cons (pe_op op_addS (pv 3) (pe_ix ix_str (pv 2) (pe_ix (ix_list_k (K := K)) (pv 1) pe_int (fun _ _ => rfl)) (fun _ _ => rfl))) (pa_cons (pe_op op_addS (pe_ix ix_str (pv 2) (pe_ix (ix_list_k (K := K)) (pv 1) pe_int (fun _ _ => rfl)) (fun _ _ => rfl)) (pv 3)) pa_nil))) (pe_op op_mod (pe_ix (ix_list_k (K := K)) (pv 1) pe_int (fun _ _ => rfl)) pe_int) (fun _ _ => rfl)))) pss_nil)
    (pss_cons (ps_if (pt_cmpR op_eq (pv 6) pe_int (nomark _)) (pss_one (ps_set (i := 3) sc.nd rfl (Or.inl rfl) (pe_bm_k (K := K) PySem.F.plainAttrs_str PySem.F.slot_str_join PySem.F.type_str_join (mt_join_k (K := K)) (pe_strS [] (by rfl)) (pa_cons (pe_lc (own := [("digit", 7)]) (g := gName 7) (by rfl) sc.nd (pi_list_k (K := K) (pe_slice (sl_list_k (K := K)) (pv 1) (po_some pe_int) (po_some (pe_op op_add pe_int (pe_ix (ix_list_k (K := K)) (pv 1) pe_int (fun _ _ => rfl)))))) (blkOk_by (N := ["cell", "spots", "signs", "text", "place", "other", "kind", "digit", "sign"]) (sc := defScope s__law_word) (own := [("digit", 7)]) (by decide +kernel)) (fun _ _ _ _ _ => (pg_name (i := 7) sc.nd rfl (Or.inl rfl))) (fun _ _ _ _ _ => pts_nil) (fun _ _ _ _ _ => (pe_ix ix_str (pv 2) (pv 7) (fun _ _ => rfl)))) pa_nil)))) pss_nil)
    (pss_cons (ps_if (pt_cmpR op_eq (pv 6) pe_int (nomark _)) (pss_one (ps_set (i := 3) sc.nd rfl (Or.inl rfl) (pe_slice sl_str (pe_op op_addS (pe_op op_addS (pv 3) (pv 3)) (pe_strS [97, 49, 98, 50, 99, 51, 100, 52] (by rfl))) po_none (po_some (pe_op op_add pe_int (pe_op op_mod (pe_ix (ix_list_k (K := K)) (pv 1) pe_int (fun _ _ => rfl)) pe_int)))))) pss_nil)
    (pss_cons (ps_if (pt_cmpR op_eq (pv 6) pe_int (nomark _)) (pss_one (ps_set (i := 3) sc.nd rfl (Or.inl rfl) (pe_ix (ix_list_k (K := K)) (pe_lst (pa_cons (pe_strS [] (by rfl)) (pa_cons (pe_op op_addS (pe_callTy call_str_int (by rfl) T.b_str (by decide +kernel) (pa_cons (pe_ix (ix_list_k (K := K)) (pv 1) pe_int (fun _ _ => rfl)) pa_nil)) (pv 3)) (pa_cons (L2.pe_upper (pv 3)) (pa_cons (pe_op op_addS (pe_op op_addS (pv 3) (pe_strS [32] (by rfl))) (pv 3)) pa_nil))))) (pe_op op_mod (pe_ix (ix_list_k (K := K)) (pv 1) pe_int (fun _ _ => rfl)) pe_int) (fun _ _ => rfl)))) pss_nil)
    (pss_cons (ps_if (pt_cmpR op_eq (pv 6) pe_int (nomark _)) (pss_one (ps_ret (pe_ix (ix_list_k (K := K)) (pe_lst (pa_cons (pe_callTy cr_int (by rfl) T.b_int (by decide +kernel) (pa_cons (pv 0) pa_nil)) (pa_cons (pe_un un_neg (pe_callB cr_lenStr (by rfl) T.b_len (by decide +kernel) (pa_cons (pv 3) pa_nil))) (pa_cons (pe_ix (ix_list_k (K := K)) (pv 1) pe_int (fun _ _ => rfl)) pa_nil)))) (pe_op op_mod (pe_ix (ix_list_k (K := K)) (pv 1) pe_int (fun _ _ => rfl)) pe_int) (fun _ _ => rfl)))) pss_nil)
    (pss_cons (ps_if (pt_cmpR op_eq (pv 6) pe_int (nomark _)) (pss_one (ps_ret (pe_ix (ix_list_k (K := K)) (pe_lst (pa_cons pe_non (pa_cons pe_bl (pa_cons pe_bl pa_nil)))) (pe_op op_mod (pe_ix (ix_list_k (K := K)) (pv 1) pe_int (fun _ _ => rfl)) pe_int) (fun _ _ => rfl)))) pss_nil)
    (pss_cons (ps_if (pt_cmpR op_eq (pv 6) pe_int (nomark _)) (pss_one (ps_ret (pe_lc (own := [("sign", 8)]) (g := gName 8) (by rfl) sc.nd (pi_str (pv 3)) (blkOk_by (N := ["cell", "spots", "signs", "text", "place", "other", "kind", "digit", "sign"]) (sc := defScope s__law_word) (own := [("sign", 8)]) (by decide +kernel)) (fun _ _ _ _ _ => (pg_name (i := 8) sc.nd rfl (Or.inl rfl))) (fun _ _ _ _ _ => pts_nil) (fun _ _ _ _ _ => (pv 8))))) pss_nil)
    (pss_cons (ps_if (pt_cmpR op_eq (pv 6) pe_int (nomark _)) (pss_one (ps_ret (pe_callTy (cr_tuple_k (K := K)) (by rfl) T.b_tuple (by decide +kernel) (pa_cons (pe_lc (own := [("sign", 8)]) (g := gName 8) (by rfl) sc.nd (pi_str (pv 3)) (blkOk_by (N := ["cell", "spots", "signs", "text", "place", "other", "kind", "digit", "sign"]) (sc := defScope s__law_word) (own := [("sign", 8)]) (by decide +kernel)) (fun _ _ _ _ _ => (pg_name (i := 8) sc.nd rfl (Or.inl rfl))) (fun _ _ _ _ _ => pts_nil) (fun _ _ _ _ _ => (pv 8))) pa_nil)))) pss_nil)
    (pss_cons (ps_if (pt_cmpR op_eq (pv 6) pe_int (nomark _)) (pss_one (ps_ret (pe_ix (ix_list_k (K := K)) (pe_lst (pa_cons pe_dnewK (pa_cons (pe_disp (pps_cons (pv 3) (pv 3) pps_nil) (by rfl) (by rfl) (by simp) (by decide)) (pa_cons (pe_disp (pps_cons (pe_strS [97] (by rfl)) (pv 4) (pps_cons (pe_strS [98] (by rfl)) (pv 3) pps_nil)) (by rfl) (by rfl) (by simp) (by decide)) pa_nil)))) (pe_op op_mod (pe_ix (ix_list_k (K := K)) (pv 1) pe_int (fun _ _ => rfl)) pe_int) (fun _ _ => rfl)))) pss_nil)
    (pss_cons (ps_if (pt_cmpR op_eq (pv 6) pe_int (nomark _)) (pss_one (ps_ret (pe_ix (ix_list_k (K := K)) (pe_lst (pa_cons (pe_lst (pa_cons (pv 3) pa_nil)) (pa_cons (pe_tup (pa_cons (pv 3) pa_nil)) (pa_cons (pe_lst pa_nil) (pa_cons (pe_tup pa_nil) pa_nil))))) (pe_op op_mod (pe_ix (ix_list_k (K := K)) (pv 1) pe_int (fun _ _ => rfl)) pe_int) (fun _ _ => rfl)))) pss_nil)
    (pss_cons (ps_if (pt_cmpR op_eq (pv 6) pe_int (nomark _)) (pss_one (ps_ret (pe_ix (ix_list_k (K := K)) (pe_lst (pa_cons (pe_lst (pa_cons (pe_lst (pa_cons (pv 3) pa_nil)) (pa_cons (pv 3) pa_nil))) (pa_cons (pe_tup (pa_cons (pv 3) (pa_cons (pe_tup (pa_cons pe_non (pa_cons (pe_lst (pa_cons (pv 3) pa_nil)) pa_nil))) pa_nil))) (pa_cons (pe_lst (pa_cons (pv 4) (pa_cons (pv 3) pa_nil))) pa_nil)))) (pe_op op_mod (pe_ix (ix_list_k (K := K)) (pv 1) pe_int (fun _ _ => rfl)) pe_int) (fun _ _ => rfl)))) pss_nil)
    (pss_one (ps_ret (pv 3)))))))))))))))))))))), ?_⟩
  refine a_setv (K := K) (x := .str (S sg95)) er_c fun H1 e1 => ?_
  have E1 : Ex A H1 := e1
  refine a_setv (K := K) (x := .str (S sgW)) (er_op (d1 := .s (S sg95)) (d2 := .s (S [10, 32, 65, 95, 57, 45, 10, 32, 45])) (er_v rfl) er_c (ro_addC (by decide))) fun H2 e2 => ?_
  have E2 : Ex A H2 := E1.trans e2
  refine a_setv (K := K) (x := .str (S (t0W sp))) (er_call (K := K) (sp.drop 1) (era_cons (Er.n2l (er_slvFrom (n := 1) (er_var rfl (hx.mono (hA.trans E2))) er_c)) era_nil) rfl (nmW_ok hp)) fun H4 e4 => ?_
  have E4 : Ex A H4 := E2.trans e4
  refine a_setv (K := K) (x := .int ((plW sp 10 : Nat) : Int)) (Er.to (er_op (d1 := .i (sp.getD 10 0)) (d2 := .i ((t0W sp).length : Int)) (spot 10 (hA.trans E4) rfl (by decide) (by decide)) (er_cb (era_cons (er_v rfl) era_nil) (rc_lenC (z := t0W sp) (by omega))) (ro_mod (by omega))) (by rw [plI])) fun H5 e5 => ?_
  have E5 : Ex A H5 := E4.trans e5
  refine a_setv (K := K) (x := .int ((plW sp 12 : Nat) : Int)) (Er.to (er_op (d1 := .i (sp.getD 12 0)) (d2 := .i ((t0W sp).length : Int)) (spot 12 (hA.trans E5) rfl (by decide) (by decide)) (er_cb (era_cons (er_v rfl) era_nil) (rc_lenC (z := t0W sp) (by omega))) (ro_mod (by omega))) (by rw [plI])) fun H6 e6 => ?_
  have E6 : Ex A H6 := E5.trans e6
  refine a_setv (K := K) (x := .int (sp.getD 0 0)) (spot 0 (hA.trans E6) rfl (by decide) (by decide)) fun H7 e7 => ?_
  have E7 : Ex A H7 := E6.trans e7
  refine st_eq (σ' := [some (.int cell), some xs, some (.str (S sgW)), some (.str (S (t0W sp))), some (.int ((plW sp 10 : Nat) : Int)), some (.int ((plW sp 12 : Nat) : Int)), some (.int (sp.getD 0 0)), none, none]) rfl ?_
  refine a_ifText (K := K) (b := decide (sp.getD 0 0 = 3) || decide (sp.getD 0 0 = 4)) (t' := t1W sp) (et_orr (et1 (er_op (er_v rfl) er_c ro_eqI)) fun _ => et1 (er_op (er_v rfl) er_c ro_eqI)) (fun _ => er_edit (t := t0W sp) (pl := plW sp 10) (x := gAt sgW sp 11) (er_v rfl) (by omega) (er_v rfl) (er_sig (j := sp.getD 11 0) (er_v rfl) (spot 11 (hA.trans E7) rfl (by decide) (by decide)) b11.1 (by rw [sgl]; exact b11.2) (by rw [sgl]; decide))) rfl rfl fun H8 e8 => ?_
  have E8 : Ex A H8 := E7.trans e8
  refine st_eq (σ' := [some (.int cell), some xs, some (.str (S sgW)), some (.str (S (t1W sp))), some (.int ((plW sp 10 : Nat) : Int)), some (.int ((plW sp 12 : Nat) : Int)), some (.int (sp.getD 0 0)), none, none]) rfl ?_
  refine a_ifText (K := K) (b := decide (sp.getD 0 0 = 4)) (t' := t2W sp) (et1 (er_op (er_v rfl) er_c ro_eqI)) (fun _ => er_edit (t := t1W sp) (pl := plW sp 12) (x := gAt sgW sp 13) (er_v rfl) (by omega) (er_v rfl) (er_sig (j := sp.getD 13 0) (er_v rfl) (spot 13 (hA.trans E8) rfl (by decide) (by decide)) b13.1 (by rw [sgl]; exact b13.2) (by rw [sgl]; decide))) rfl rfl fun H9 e9 => ?_
  have E9 : Ex A H9 := E8.trans e9
  refine st_eq (σ' := [some (.int cell), some xs, some (.str (S sgW)), some (.str (S (t2W sp))), some (.int ((plW sp 10 : Nat) : Int)), some (.int ((plW sp 12 : Nat) : Int)), some (.int (sp.getD 0 0)), none, none]) rfl ?_
  refine a_ifText (K := K) (b := decide (sp.getD 0 0 = 5)) (t' := t3W sp) (et1 (er_op (er_v rfl) er_c ro_eqI)) (fun _ => er_ends (t := t2W sp) (g := [gAt sgW sp 11]) (i := sp.getD 12 0) (er_v rfl) (er_sig (j := sp.getD 11 0) (er_v rfl) (spot 11 (hA.trans E9) rfl (by decide) (by decide)) b11.1 (by rw [sgl]; exact b11.2) (by rw [sgl]; decide)) (er_op (spot 12 (hA.trans E9) rfl (by decide) (by decide)) er_c (ro_mod (by decide))) (by simp; omega)) rfl rfl fun H10 e10 => ?_
  have E10 : Ex A H10 := E9.trans e10
  refine st_eq (σ' := [some (.int cell), some xs, some (.str (S sgW)), some (.str (S (t3W sp))), some (.int ((plW sp 10 : Nat) : Int)), some (.int ((plW sp 12 : Nat) : Int)), some (.int (sp.getD 0 0)), none, none]) rfl ?_
  have n14 : ((15 + (sp.getD 14 0).toNat : Nat) : Int) = 15 + sp.getD 14 0 := by omega
  refine a_ifText (K := K) (b := decide (sp.getD 0 0 = 6)) (t' := t4W sp) (et1 (er_op (er_v rfl) er_c ro_eqI)) (fun _ => er_bm (K := K) (d0 := .s (S [])) (ds := [.n ((anyW sp).map fun c => V.str (S [c]))]) er_c (era_cons (Er.to (er_lcL (K := K) (its := digW sp) (inj := V.int) (vs := [7]) (fun _ => true) (fun d => V.str (S [sgW.getD d.toNat 0])) (Er.n2l (er_slvMid (n := 15) (m := 15 + (sp.getD 14 0).toNat) (er_var rfl (hx.mono (hA.trans E10))) er_c (Er.to (er_op er_c (spot 14 (hA.trans E10) rfl (by decide) (by decide)) ro_I0) (by show Dd.i (15 + sp.getD 14 0) = _; rw [n14])) (by omega) (by omega))) (by rw [digW, List.length_take]; omega) (fun _ => rfl) (fun i d H2 e2 hd => fun H3 e3 Q q => q H3 (Ex.refl _)) (fun i d H2 e2 hd _ => ?_)) (by rw [filt_true, anyW, List.map_map]; rfl)) era_nil) (rm_joinC (by have := (anyW_ok hp).l; omega))) rfl rfl fun H11 e11 => ?_
  · have hd2 : ∃ k, k < 10 ∧ d = sp.getD (15 + k) 0 := by
      unfold digW at hd
      rw [List.getElem?_take] at hd
      split at hd
      · rename_i hi
        rw [List.getElem?_drop] at hd
        exact ⟨i, by omega, by rw [List.getD_eq_getElem?_getD, hd]; rfl⟩
      · cases hd
    obtain ⟨k, hk10, rfl⟩ := hd2
    have q := hp.b (15 + k) (by omega)
    have s : ∀ j, j < 10 → szW.getD (15 + j) 0 = 95 := by decide
    rw [s k hk10] at q
    exact er_sig (er_v rfl) (er_v rfl) q.1 (by rw [sgl]; omega) (by rw [sgl]; decide)
  have E11 : Ex A H11 := E10.trans e11
  refine st_eq (σ' := [some (.int cell), some xs, some (.str (S sgW)), some (.str (S (t4W sp))), some (.int ((plW sp 10 : Nat) : Int)), some (.int ((plW sp 12 : Nat) : Int)), some (.int (sp.getD 0 0)), none, none]) rfl ?_
  have n12 : ((8 + (sp.getD 12 0 % 2).toNat : Nat) : Int) = 8 + sp.getD 12 0 % 2 := by omega
  refine a_ifText (K := K) (b := decide (sp.getD 0 0 = 7)) (t' := t5W sp) (et1 (er_op (er_v rfl) er_c ro_eqI)) (fun _ => er_slTo (n := 8 + (sp.getD 12 0 % 2).toNat) (er_op (d1 := .s (S (t4W sp ++ t4W sp))) (d2 := .s (S [97, 49, 98, 50, 99, 51, 100, 52])) (er_op (er_v rfl) (er_v rfl) (ro_addC (by omega))) er_c (ro_addC (by simp; omega))) (by simp; omega) (Er.to (er_op er_c (er_op (spot 12 (hA.trans E11) rfl (by decide) (by decide)) er_c (ro_mod (by decide))) ro_I0) (by show Dd.i (8 + sp.getD 12 0 % 2) = _; rw [n12]))) rfl rfl fun H12 e12 => ?_
  have E12 : Ex A H12 := E11.trans e12
  refine st_eq (σ' := [some (.int cell), some xs, some (.str (S sgW)), some (.str (S (t5W sp))), some (.int ((plW sp 10 : Nat) : Int)), some (.int ((plW sp 12 : Nat) : Int)), some (.int (sp.getD 0 0)), none, none]) rfl ?_
  refine a_ifText (K := K) (b := decide (sp.getD 0 0 = 8)) (t' := t6W sp) (c := pick8 sp (t5W sp)) (et1 (er_op (er_v rfl) er_c ro_eqI)) (fun _ => er_four (er_op (d1 := .s (S (strI (sp.getD 11 0)))) (d2 := .s (S (t5W sp))) (er_cb (era_cons (spot 11 (hA.trans E12) rfl (by decide) (by decide)) era_nil) (rc_str b11.1 (Int.lt_trans b11.2 (by decide)))) (er_v rfl) (ro_addC (by have := strI_len b11.1 b11.2; omega))) (er_upper (t := t5W sp) (er_v rfl) (by omega)) (er_op (d1 := .s (S (t5W sp ++ [32]))) (d2 := .s (S (t5W sp))) (er_op (er_v rfl) er_c (ro_addC (by simp; omega))) (er_v rfl) (ro_addC (by simp; omega))) (er_op (spot 12 (hA.trans E12) rfl (by decide) (by decide)) er_c (ro_mod (by decide))) i4.1 i4.2) rfl rfl fun H12b e12b => ?_
  have E12b : Ex A H12b := E12.trans e12b
  refine st_eq (σ' := [some (.int cell), some xs, some (.str (S sgW)), some (.str (S (t6W sp))), some (.int ((plW sp 10 : Nat) : Int)), some (.int ((plW sp 12 : Nat) : Int)), some (.int (sp.getD 0 0)), none, none]) rfl ?_
  have gs : ∀ {σ : L2.St} (z : Int), σ[1]? = some (some xs) → 0 ≤ z → z < 25 → Er K (tOp (rIxL K) (tVar 1) (tC (.int z))) σ G (.i (sp.getD z.toNat 0)) := fun z hv h0 h1 => er_spot z hv hx h0 (by rw [hl]; exact h1)
  have fin : ∀ {D : Ends} {σ : L2.St} {H : Hp} {te : TE} {th : Th}, D.rt = Q → Ex A H → Ef K te σ G (thD C th) → th = valW cell sp → tRet te D σ H := fun {D σ H te th} hD e he ht => s_ret (K := K) (G := G) he (hA.trans e) (congrArg (thD C) ht) fun v G' A' st z => by rw [hD]; exact hk v G' A' ((Step.on hA e).trans st) z
  refine a_when (K := K) (b := decide (sp.getD 0 0 = 9)) (et1 (er_op (er_v rfl) er_c ro_eqI)) (fun hb H13 e13 => ?_) fun h9 H13 e13 => ?_
  · refine fin rfl (E12b.trans e13) (ef_at (picks8 cell ((t6W sp).length : Int) (sp.getD 11 0)) (efa_cons (ef_flat (er_cb (era_cons (er_v rfl) era_nil) rc_int)) (efa_cons (ef_flat (er_neg (er_cb (era_cons (er_v rfl) era_nil) (rc_lenC (z := t6W sp) (by omega))))) (efa_cons (ef_flat (gs 11 rfl (by decide) (by decide))) efa_nil))) (er_op (gs 12 rfl (by decide) (by decide)) er_c (ro_mod (by decide))) i3.1 i3.2 (by simp [picks8])) ?_
    unfold valW
    rw [hb]
    rfl
  have E13 : Ex A H13 := E12b.trans e13
  refine a_when (K := K) (b := decide (sp.getD 0 0 = 10)) (et1 (er_op (er_v rfl) er_c ro_eqI)) (fun hb H14 e14 => ?_) fun h10 H14 e14 => ?_
  · refine fin rfl (E13.trans e14) (ef_at picks9 (efa_cons (ef_flat er_c) (efa_cons (ef_flat er_c) (efa_cons (ef_flat er_c) efa_nil))) (er_op (gs 12 rfl (by decide) (by decide)) er_c (ro_mod (by decide))) i3.1 i3.2 (by decide)) ?_
    unfold valW
    rw [h9, hb]
    rfl
  have E14 : Ex A H14 := E13.trans e14
  refine a_when (K := K) (b := decide (sp.getD 0 0 = 11)) (et1 (er_op (er_v rfl) er_c ro_eqI)) (fun hb H15 e15 => ?_) fun h11 H15 e15 => ?_
  · refine fin rfl (E14.trans e15) (th := .c (.N ((t6W sp).map fun c => Dd.s (S [c])))) (ef_letters (t := t6W sp) (er_v rfl) (by omega) (fun _ => rfl) (fun _ => rfl)) ?_
    unfold valW
    rw [h9, h10, hb]
    rfl
  have E15 : Ex A H15 := E14.trans e15
  refine a_when (K := K) (b := decide (sp.getD 0 0 = 12)) (et1 (er_op (er_v rfl) er_c ro_eqI)) (fun hb H16 e16 => ?_) fun h12 H16 e16 => ?_
  · refine fin rfl (E15.trans e16) (th := .c (.U ((t6W sp).map fun c => Dd.s (S [c])))) (ef_cb (efa_cons (ef_letters (t := t6W sp) (er_v rfl) (by omega) (fun _ => rfl) (fun _ => rfl)) efa_nil) rf_tupN) ?_
    unfold valW
    rw [h9, h10, h11, hb]
    rfl
  have E16 : Ex A H16 := E15.trans e16
  refine a_when (K := K) (b := decide (sp.getD 0 0 = 13)) (et1 (er_op (er_v rfl) er_c ro_eqI)) (fun hb H17 e17 => ?_) fun h13 H17 e17 => ?_
  · refine fin rfl (E16.trans e17) (ef_at2 (C := C) (ds := [thD C (.k []), thD C (.k [(.inr (S (t6W sp)), .str (S (t6W sp)))]), thD C (.k [(.inr (S [97]), .int (plW sp 10 : Int)), (.inr (S [98]), .str (S (t6W sp)))])]) (picks12 (t6W sp) (plW sp 10 : Int) [98]) rfl (efa_cons ef_d0 (efa_cons (ef_d1 (er_v rfl) (er_v rfl)) (efa_cons (ef_d2 (ne_key (by decide)) er_c (er_v rfl) er_c (er_v rfl)) efa_nil))) (er_op (gs 12 rfl (by decide) (by decide)) er_c (ro_mod (by decide))) i3.1 i3.2 (by simp [picks12])) ?_
    unfold valW
    rw [h9, h10, h11, h12, hb]
    rfl
  have E17 : Ex A H17 := E16.trans e17
  refine a_when (K := K) (b := decide (sp.getD 0 0 = 14)) (et1 (er_op (er_v rfl) er_c ro_eqI)) (fun hb H18 e18 => ?_) fun h14 H18 e18 => ?_
  · refine fin rfl (E17.trans e18) (ef_at (picks13 (t6W sp)) (efa_cons (ef_N (efa_cons (ef_flat (er_v rfl)) efa_nil) (by simp)) (efa_cons (ef_U (efa_cons (ef_flat (er_v rfl)) efa_nil) (by simp)) (efa_cons (ef_N efa_nil (by simp)) (efa_cons (ef_U efa_nil (by simp)) efa_nil)))) (er_op (gs 12 rfl (by decide) (by decide)) er_c (ro_mod (by decide))) i4.1 i4.2 (by simp [picks13])) ?_
    unfold valW
    rw [h9, h10, h11, h12, h13, hb]
    rfl
  have E18 : Ex A H18 := E17.trans e18
  refine a_when (K := K) (b := decide (sp.getD 0 0 = 15)) (et1 (er_op (er_v rfl) er_c ro_eqI)) (fun hb H19 e19 => ?_) fun h15 H19 e19 => ?_
  · refine fin rfl (E18.trans e19) (ef_at (picks14 (t6W sp) (plW sp 10 : Int)) (efa_cons (ef_N (efa_cons (ef_N (efa_cons (ef_flat (er_v rfl)) efa_nil) (by simp)) (efa_cons (ef_flat (er_v rfl)) efa_nil)) (by simp)) (efa_cons (ef_U (efa_cons (ef_flat (er_v rfl)) (efa_cons (ef_U (efa_cons (ef_flat er_c) (efa_cons (ef_N (efa_cons (ef_flat (er_v rfl)) efa_nil) (by simp)) efa_nil)) (by simp)) efa_nil)) (by simp)) (efa_cons (ef_N (efa_cons (ef_flat (er_v rfl)) (efa_cons (ef_flat (er_v rfl)) efa_nil)) (by simp)) efa_nil))) (er_op (gs 12 rfl (by decide) (by decide)) er_c (ro_mod (by decide))) i3.1 i3.2 (by simp [picks14])) ?_
    unfold valW
    rw [h9, h10, h11, h12, h13, h14, hb]
    rfl
  · refine fin rfl (E18.trans e19) (th := .t (t6W sp)) (ef_flat (er_v rfl)) ?_
    unfold valW
    rw [h9, h10, h11, h12, h13, h14, h15]
    rfl
end
end Mi

set_option maxHeartbeats 0
namespace Mi
open PySem PySem.Spec PyProof.Rows L2 Evl
local macro_rules | `(tactic| walk_at "side") => `(tactic| (first | assumption | omega | exact rfl | decide | (simp only [List.length_cons, List.length_nil, List.length_map, List.length_append, List.length_replicate] <;> omega)))
local macro_rules | `(tactic| walk_at "ro") => `(tactic| (first
  | with_reducible exact ro_I0
  | with_reducible exact ro_1018
  | with_reducible exact ro_neC
  | with_reducible exact ro_eqC
  | with_reducible exact ro_neI
  | with_reducible exact ro_eqI
  | with_reducible exact ro_neB
  | with_reducible exact ro_eqB
  | ((with_reducible apply ro_mod); (walk_at "side"))
  | ((with_reducible apply ro_div) <;> (walk_at "side"))
  | ((with_reducible apply ro_divW) <;> (walk_at "side"))
  | with_reducible exact ro_1012
  | with_reducible exact ro_1015
  | ((with_reducible apply ro_mulL) <;> (walk_at "side"))
  | ((with_reducible apply ro_mulR) <;> (walk_at "side"))
  | ((with_reducible apply ro_addC); (walk_at "side"))
  | ((with_reducible apply ro_ixC) <;> (walk_at "side"))
  | ((with_reducible apply ro_ixI) <;> (walk_at "side"))
  | ((with_reducible apply ro_ixIN) <;> (walk_at "side"))
  | ((with_reducible apply ro_ixT2) <;> (walk_at "side"))
  | ((with_reducible apply ro_ixG) <;> (walk_at "side"))
  | ((with_reducible apply ro_eq); exact rfl)
  | ((with_reducible apply ro_ne); exact rfl)
  | with_reducible exact ro_isN
  | with_reducible exact ro_notN
  | with_reducible exact ro_eqL
  | with_reducible exact ro_neL
  | with_reducible exact ro_eqU
  | ((with_reducible apply ro_cat); (walk_at "side"))
  | with_reducible exact ro_inLi
  | with_reducible exact ro_inNi
  | with_reducible exact ro_inUi
  | ((with_reducible apply ro_inL) <;> (walk_at "side"))
  | ((with_reducible apply ro_inN) <;> (walk_at "side"))
  | ((with_reducible apply ro_inU) <;> (walk_at "side"))))
local macro_rules | `(tactic| walk_at "rc") => `(tactic| (first
  | with_reducible exact rc_int
  | with_reducible exact rc_intB
  | with_reducible exact rc_max2
  | ((with_reducible apply rc_lenC); (walk_at "side"))
  | with_reducible exact rc_lenI
  | with_reducible exact rc_lenT
  | with_reducible exact rc_lenIN
  | with_reducible exact rc_lenTN
  | with_reducible exact rc_lenL
  | with_reducible exact rc_lenN
  | with_reducible exact rc_lenU
  | with_reducible exact rc_listL
  | with_reducible exact rc_listU
  | with_reducible exact rc_tupL
  | with_reducible exact rc_tupN
  | ((with_reducible apply rc_isi_int); decide +kernel)
  | ((with_reducible apply rc_isi_str); decide +kernel)
  | ((with_reducible apply rc_isi_bl); decide +kernel)
  | ((with_reducible apply rc_isi_non); decide +kernel)
  | ((with_reducible apply rc_isi_u); decide +kernel)
  | ((with_reducible apply rc_isi_l); decide +kernel)))
local macro_rules | `(tactic| walk_at "er") => `(tactic| (first
  | ((with_reducible apply er_var); (exact rfl); assumption)
  | ((with_reducible apply er_v); exact rfl)
  | with_reducible exact er_c
  | ((with_reducible apply er_pick); (walk_at "er"); (walk_at "er"); (walk_at "er"))
  | ((with_reducible apply er_op); (walk_at "er"); (walk_at "er"); (walk_at "ro"))
  | ((with_reducible apply er_cb); (walk_at "era"); (walk_at "rc"))
  | ((with_reducible apply er_lst'); (walk_at "era"); (exact rfl); (walk_at "side"))
  | ((with_reducible apply er_tup'); (walk_at "era"); (exact rfl); (walk_at "side"))
  | ((with_reducible apply er_notV); (walk_at "er"))
  | ((with_reducible apply er_andV); (walk_at "er"); (intro _; (walk_at "er")))
  | ((with_reducible apply er_orV); (walk_at "er"); (intro _; (walk_at "er")))
  | ((with_reducible apply er_ite); (walk_at "et"); (intro _; (walk_at "er")); (intro _; (walk_at "er")))))
local macro_rules | `(tactic| walk_at "era") => `(tactic| (first
  | with_reducible exact era_nil
  | ((with_reducible apply era_cons); (walk_at "er"); (walk_at "era"))))
local macro_rules | `(tactic| walk_at "et") => `(tactic| (first
  | ((with_reducible apply et_an); (walk_at "et"); (intro _; (walk_at "et")))
  | ((with_reducible apply et_orr); (walk_at "et"); (intro _; (walk_at "et")))
  | ((with_reducible apply et_nt); (walk_at "et"))
  | ((with_reducible apply et1); (walk_at "er"))
  | ((with_reducible apply et2); (walk_at "er"))))

section
variable {P : Program} {w : World} {K : PySem.W.Frag} {mg : Str → Option Value} {base : Heap}
/-! ### lists of numbers, seen at once -/
section
variable {σ : L2.St} {G A : Hp} {te tl : TE} {tr : TA} {d : Dd}
theorem ef_lstn {vs : List V} (h : Era K tr σ G (vs.map Dd.v)) (hl : vs.length ≤ 100000) : Ef K (tLst tr) σ G (.n vs) := fun G1 A e1 e2 Q q =>
  h A (e1.trans e2) _ fun ws H2 e z => by
    have ew := flat_all z
    subst ew
    exact ⟨sz_of hl, fun p hp => q _ (upd G1 p (.lst ws)) _ ((Step.on e2 e).trans (Step.new (e2.trans e) hp)) ⟨p, rfl, upd_same⟩⟩
theorem rof_cat {xs zs : List V} (h : xs.length + zs.length ≤ 100000) : Rof K rCat (.n xs) (.n zs) (.n (xs ++ zs)) := by
  rintro _ _ G A e ⟨p, rfl, hp⟩ ⟨p', rfl, hp'⟩ Q q
  exact ⟨p, p', xs, zs, rfl, rfl, e p _ hp, e p' _ hp', sz_of h, fun l hl => q _ (upd G l (.lst (xs ++ zs))) _ (Step.new e hl) ⟨l, rfl, upd_same⟩⟩
theorem rof_rep {xs : List V} {k : Nat} (h : xs.length * k ≤ 100000) (hk : k ≤ 100000) : Rof K rRep (.n xs) (.v (.int (k : Int))) (.n (List.replicate k xs).flatten) := by
  rintro _ _ G A e ⟨p, rfl, hp⟩ rfl Q q
  exact ⟨p, k, xs, rfl, rfl, e p _ hp, by omega, by omega, by rw [Int.toNat_natCast]; exact sz_of h, fun l hl => q _ (upd G l (.lst (List.replicate k xs).flatten)) _ (Step.new e hl) ⟨l, rfl, upd_same⟩⟩
theorem Ef.n2l {xs : List V} (h : Ef K te σ G (.n xs)) : Ef K te σ G (.l xs) := fun G1 A e1 e2 Q q => h G1 A e1 e2 Q fun v G' A' s z => q v G' A' s z.n2l
theorem ef_same {n : Int} {k : Nat} (hk : k ≤ 1000) : Ef K (tOp rRep (tLst (tCons (tC (.int n)) tNil)) (tC (.int (k : Int)))) σ G (.n (vis (List.replicate k n))) :=
  Ef.to (ef_op (ef_lstn (vs := [.int n]) (era_cons er_c era_nil) (by simp)) (ef_flat er_c) (rof_rep (by simp; omega) (by omega))) (by simp [vis])
theorem b_sapp {tz : TS} {D : Ends} {l : Addr} {us : List V} (hl : A l = some (.lst us)) (hg : G l = none) (hA : Ex G A) (ha : Er K tl σ A (.v (.ref l))) (h : Ef K te σ G d) (hz : us.length < 100000) (k : ∀ w G' A', Step G A G' A' → Is K G' d w → G' l = none → A' l = some (.lst us) → tz D σ (upd A' l (.lst (us ++ [w])))) :
    tSeq (tDrop (tBM K "list" rAppend tl (tCons te tNil))) tz D σ A := s_app (D := { D with nx := tz D }) hl hg hA ha h hz k
end
abbrev s__law_values : Stmt := topS 37
theorem sc__law_values : FnScope ["script", "values", "k", "cell", "spots"] ["script"] (defScope s__law_values) := ⟨rfl, rfl, rfl, by decide +kernel, rfl, by decide +kernel, by decide +kernel⟩

def thsM (ns : List Int) (i : Nat) : List Th := (List.range i).flatMap fun k => [valM (cellM ns k) (drawM ns k szV), valW (cellM ns k) (drawM ns k szW)]
theorem thsM_next (ns : List Int) (i : Nat) : thsM ns (i + 1) = thsM ns i ++ [valM (cellM ns i) (drawM ns i szV), valW (cellM ns i) (drawM ns i szW)] := by
  unfold thsM
  rw [List.range_succ, List.flatMap_append]
  simp
theorem thsM_len (ns : List Int) (i : Nat) : (thsM ns i).length = 2 * i := by
  induction i with
  | zero => rfl
  | succ n ih =>
    rw [thsM_next, List.length_append, ih]
    simp
    omega
theorem szV_bd : ∀ s ∈ szV, 0 < s ∧ s < 1000000 := by decide
theorem szW_bd : ∀ s ∈ szW, 0 < s ∧ s < 1000000 := by decide
theorem spV_ok (ns : List Int) (i : Nat) : SpV (drawM ns i szV) := ⟨by rw [drawM_len]; rfl, fun j hj => drawM_bd (fun s hs => (szV_bd s hs).1) hj⟩
theorem spW_ok (ns : List Int) (i : Nat) : SpW (drawM ns i szW) := ⟨by rw [drawM_len]; rfl, fun j hj => drawM_bd (fun s hs => (szW_bd s hs).1) hj⟩
theorem thsM_ok (ns : List Int) (i : Nat) : ∀ th ∈ thsM ns i, Fit th := by
  intro th h
  unfold thsM at h
  obtain ⟨k, _, h⟩ := List.mem_flatMap.mp h
  simp only [List.mem_cons, List.not_mem_nil, or_false] at h
  rcases h with rfl | rfl
  · exact valM_ok (spV_ok ns k)
  · exact valW_ok (spW_ok ns k)
abbrev sp__law_values (K : PySem.W.Frag) (C : Addr) : Sp := spF K (fun ns : List Int => ns.length ≤ 63) (fun ns => [.l (vis ns)]) fun ns => .N ((thsM ns (ns.length + 8)).map (thD C))
theorem has__law_values {C : Addr} (T : Txt K mg) (h : At K mg "_law_values" s__law_values ["script"]) (C__law_cell : Has P w K mg base 1 "_law_cell" ["script", "k"] (sp__law_cell K)) (C__law_draw : Has P w K mg base 2 "_law_draw" ["script", "k", "sizes"] (sp__law_draw K)) (C__law_value : Has P w K mg base 2 "_law_value" ["cell", "spots"] (sp__law_value K C)) (C__law_word : Has P w K mg base 2 "_law_word" ["cell", "spots"] (sp__law_word K C)) : Has P w K mg base 3 "_law_values" ["script"] (sp__law_values K C) := by
  refine h.hasF sc__law_values (fun _ => rfl) fun f cdv Ar outer s G A ns vs Q E hr hp hA hv hk => ?_
  replace hp : ns.length ≤ 63 := hp
  rcases hv with _ | ⟨hx, _ | _⟩
  rename_i x
  replace hx : Is K G (.l (vis ns)) x := hx
  have sc := sc__law_values
  refine ⟨_, (pss_cons (ps_set (i := 1) sc.nd rfl (Or.inl rfl) (pe_lst pa_nil))
    (pss_cons (ps_for PassesOwn.never rfl (pi_range1 (by rfl) T.b_range (pa_cons (pe_op op_add (pe_callB (cr_len_k (K := K)) (by rfl) T.b_len (by decide +kernel) (pa_cons (pv 0) pa_nil)) pe_int) pa_nil)) (pg_name (i := 2) sc.nd rfl (Or.inl rfl)) (pss_cons (ps_set (i := 3) sc.nd rfl (Or.inl rfl) (pe_callH C__law_cell (hr.mono (by decide)) (pa_cons (pv 0) (pa_cons (pv 2) pa_nil))))
    (pss_cons (ps_set (i := 4) sc.nd rfl (Or.inl rfl) (pe_callH C__law_draw (hr.mono (by decide)) (pa_cons (pv 0) (pa_cons (pv 2) (pa_cons (pe_op op_cat (pe_lst (pa_cons pe_int (pa_cons pe_int (pa_cons pe_int (pa_cons pe_int (pa_cons pe_int (pa_cons pe_int (pa_cons pe_int (pa_cons pe_int (pa_cons pe_int (pa_cons pe_int (pa_cons pe_int pa_nil)))))))))))) (pe_op op_rep (pe_lst (pa_cons pe_int pa_nil)) pe_int)) pa_nil)))))
    (pss_cons (ps_expr (pe_bm_k (K := K) PySem.F.plainAttrs_list PySem.F.slot_list_append PySem.F.type_list_append mt_append (pv 1) (pa_cons (pe_callH C__law_value (hr.mono (by decide)) (pa_cons (pv 3) (pa_cons (pv 4) pa_nil))) pa_nil)))
    (pss_cons (ps_set (i := 4) sc.nd rfl (Or.inl rfl) (pe_callH C__law_draw (hr.mono (by decide)) (pa_cons (pv 0) (pa_cons (pv 2) (pa_cons (pe_op op_cat (pe_op op_cat (pe_op op_cat (pe_lst (pa_cons pe_int (pa_cons pe_int (pa_cons pe_int pa_nil)))) (pe_op op_rep (pe_lst (pa_cons pe_int pa_nil)) pe_int)) (pe_lst (pa_cons pe_int (pa_cons pe_int (pa_cons pe_int (pa_cons pe_int (pa_cons pe_int pa_nil))))))) (pe_op op_rep (pe_lst (pa_cons pe_int pa_nil)) pe_int)) pa_nil)))))
    (pss_one (ps_expr (pe_bm_k (K := K) PySem.F.plainAttrs_list PySem.F.slot_list_append PySem.F.type_list_append mt_append (pv 1) (pa_cons (pe_callH C__law_word (hr.mono (by decide)) (pa_cons (pv 3) (pa_cons (pv 4) pa_nil))) pa_nil)))))))))
    (pss_one (ps_ret (pv 1))))), ?_⟩
  refine s_new hA fun l A1 hl0 hg0 s1 hl1 => ?_
  refine b_for (K := K) (G := G) (ds := (List.range (ns.length + 8)).map fun i : Nat => Dd.i (i : Int)) (if_range ?_ (by omega)) s1.v (fun i σ' G' A' => ∃ o2 o3 o4 us, σ' = [some x, some (.ref l), o2, o3, o4] ∧ G' l = none ∧ A' l = some (.lst us) ∧ IsE K G' ((thsM ns i).map (thD C)) us ∧ us.length = 2 * i ∧ Step G A G' A') (fun G2 A2 s2 => ⟨none, none, none, [], rfl, s2.f l (by rw [hl1]; simp) hg0, s2.a l _ hl1, rfl, rfl, s1.trans s2⟩) ?_ ?_
  · exact era_cons (Er.to (er_op (er_cb (era_cons (er_var rfl hx) era_nil) rc_lenI) er_c ro_I0) (by simp)) era_nil
  · rintro G1 eg i d v σ' G' A' G2 A2 hd ⟨o2, o3, o4, us, rfl, g1, a1, hE, hlen, st⟩ e1 e2 s2 hv
    obtain ⟨hi, rfl⟩ : i < ns.length + 8 ∧ Dd.i (i : Int) = d := by
      rw [List.getElem?_map] at hd
      by_cases h : i < ns.length + 8
      · rw [List.getElem?_range h] at hd
        exact ⟨h, Option.some.inj hd⟩
      · rw [List.getElem?_eq_none (by simp; omega)] at hd
        cases hd
    obtain rfl : v = V.int (i : Int) := hv
    have gx : Is K G2 (.l (vis ns)) x := hx.mono (st.g.trans s2.g)
    have g2 : G2 l = none := s2.f l (by rw [a1]; simp) g1
    have a2 := s2.a l _ a1
    refine a_setv (K := K) (x := .int (cellM ns i)) (er_call (ns, i) (era_cons (er_var rfl (gx.mono s2.v)) (era_cons (er_v rfl) era_nil)) rfl ⟨hp, by show i ≤ 1000; omega⟩) fun A3 e3 => ?_
    have a3 := e3 l _ a2
    have s3 := s2.trans (Step.on s2.v e3)
    refine s_set (K := K) (G := G2) (d := .n (vis (drawM ns i szV))) (ef_call (ns, i, szV) (efa_cons (ef_var rfl gx) (efa_cons (ef_flat (er_v rfl)) (efa_cons (Ef.n2l (Ef.to (ef_op (ef_lstn (vs := vis [16, 40, 4, 27, 26, 25, 6, 34, 104, 34, 104]) (era_cons er_c (era_cons er_c (era_cons er_c (era_cons er_c (era_cons er_c (era_cons er_c (era_cons er_c (era_cons er_c (era_cons er_c (era_cons er_c (era_cons er_c era_nil))))))))))) (by decide)) (ef_same (n := 112) (k := 34) (by decide)) (rof_cat (by decide))) (by rfl))) efa_nil))) rfl ⟨hp, show i ≤ 1000 by omega, show szV.length ≤ 1000 by decide, szV_bd⟩) s3.v fun vsp G4 A4 s4 hsp => ?_
    have a4 := s4.a l _ a3
    have g4 : G4 l = none := s4.f l (by rw [a3]; simp) g2
    refine b_sapp (K := K) (G := G4) (d := thD C (valM (cellM ns i) (drawM ns i szV))) a4 g4 s4.v (er_v rfl) (ef_call (cellM ns i, drawM ns i szV) (efa_cons (ef_flat (er_v rfl)) (efa_cons (ef_var rfl hsp.n2l) efa_nil)) rfl (spV_ok ns i)) (by omega) fun w5 G5 A5 s5 z5 g5 a5 => ?_
    have S5 : Step G' A' G5 A5 := (s3.trans s4).trans s5
    have T5 := (st.trans S5).grow (o := .lst (us ++ [w5])) hl0 g5
    have gx5 := (gx.mono s4.g).mono s5.g
    refine s_set (K := K) (G := G5) (d := .n (vis (drawM ns i szW))) (ef_call (ns, i, szW) (efa_cons (ef_var rfl gx5) (efa_cons (ef_flat (er_v rfl)) (efa_cons (Ef.n2l (Ef.to (ef_op (ef_op (ef_op (ef_lstn (vs := vis [18, 8, 26]) (era_cons er_c (era_cons er_c (era_cons er_c era_nil))) (by decide)) (ef_same (n := 36) (k := 7) (by decide)) (rof_cat (by decide))) (ef_lstn (vs := vis [12, 104, 12, 104, 11]) (era_cons er_c (era_cons er_c (era_cons er_c (era_cons er_c (era_cons er_c era_nil))))) (by decide)) (rof_cat (by decide))) (ef_same (n := 95) (k := 10) (by decide)) (rof_cat (by decide))) (by rfl))) efa_nil))) rfl ⟨hp, show i ≤ 1000 by omega, show szW.length ≤ 1000 by decide, szW_bd⟩) T5.v fun vsp6 G6 A6 s6 hsp6 => ?_
    have a6 := s6.a l _ upd_same
    have g6 : G6 l = none := s6.f l (by rw [upd_same]; simp) g5
    refine s_app (K := K) (G := G6) (d := thD C (valW (cellM ns i) (drawM ns i szW))) a6 g6 s6.v (er_v rfl) (ef_call (cellM ns i, drawM ns i szW) (efa_cons (ef_flat (er_v rfl)) (efa_cons (ef_var rfl hsp6.n2l) efa_nil)) rfl (spW_ok ns i)) (by rw [List.length_append]; simp; omega) fun w7 G7 A7 s7 z7 g7 a7 => ?_
    have T7 := ((T5.trans s6).trans s7).grow (o := .lst ((us ++ [w5]) ++ [w7])) hl0 g7
    refine ⟨G7, ⟨_, _, _, (us ++ [w5]) ++ [w7], rfl, g7, upd_same, ?_, ?_, T7⟩, ?_, s7.v.mut g7⟩
    · rw [thsM_next, List.map_append, List.append_assoc]
      exact isE_app (IsE.mono ((S5.g.trans s6.g).trans s7.g) hE) ⟨w5, [w7], rfl, z5.mono (s6.g.trans s7.g), w7, [], rfl, z7, rfl⟩
    · simp only [List.length_append, List.length_cons, List.length_nil]
      omega
    · exact e1.trans ((S5.g.trans s6.g).trans s7.g)
  · rintro σ' G' A' e1 e2 ⟨o2, o3, o4, us, rfl, g1, a1, hE, hlen, st⟩
    rw [List.length_map, List.length_range] at hE
    exact ⟨.ref l, rfl, hk (.ref l) (upd G' l (.lst us)) A' (st.seal hl0 g1 a1) ⟨l, us, rfl, upd_same, IsE.mono (Ex.new g1) hE⟩⟩
end
end Mi

set_option maxHeartbeats 0
namespace Mi
open PySem PySem.Spec PyProof.Rows L2 Evl
local macro_rules | `(tactic| walk_at "side") => `(tactic| (first | assumption | omega | exact rfl | decide | (simp only [List.length_cons, List.length_nil, List.length_map, List.length_append, List.length_replicate] <;> omega)))
local macro_rules | `(tactic| walk_at "ro") => `(tactic| (first
  | with_reducible exact ro_I0
  | with_reducible exact ro_1018
  | with_reducible exact ro_neC
  | with_reducible exact ro_eqC
  | with_reducible exact ro_neI
  | with_reducible exact ro_eqI
  | with_reducible exact ro_neB
  | with_reducible exact ro_eqB
  | ((with_reducible apply ro_mod); (walk_at "side"))
  | ((with_reducible apply ro_div) <;> (walk_at "side"))
  | ((with_reducible apply ro_divW) <;> (walk_at "side"))
  | with_reducible exact ro_1012
  | with_reducible exact ro_1015
  | ((with_reducible apply ro_mulL) <;> (walk_at "side"))
  | ((with_reducible apply ro_mulR) <;> (walk_at "side"))
  | ((with_reducible apply ro_addC); (walk_at "side"))
  | ((with_reducible apply ro_ixC) <;> (walk_at "side"))
  | ((with_reducible apply ro_ixI) <;> (walk_at "side"))
  | ((with_reducible apply ro_ixIN) <;> (walk_at "side"))
  | ((with_reducible apply ro_ixT2) <;> (walk_at "side"))
  | ((with_reducible apply ro_ixG) <;> (walk_at "side"))
  | ((with_reducible apply ro_eq); exact rfl)
  | ((with_reducible apply ro_ne); exact rfl)
  | with_reducible exact ro_isN
  | with_reducible exact ro_notN
  | with_reducible exact ro_eqL
  | with_reducible exact ro_neL
  | with_reducible exact ro_eqU
  | ((with_reducible apply ro_cat); (walk_at "side"))
  | with_reducible exact ro_inLi
  | with_reducible exact ro_inNi
  | with_reducible exact ro_inUi
  | ((with_reducible apply ro_inL) <;> (walk_at "side"))
  | ((with_reducible apply ro_inN) <;> (walk_at "side"))
  | ((with_reducible apply ro_inU) <;> (walk_at "side"))))
local macro_rules | `(tactic| walk_at "rc") => `(tactic| (first
  | with_reducible exact rc_int
  | with_reducible exact rc_intB
  | with_reducible exact rc_max2
  | ((with_reducible apply rc_lenC); (walk_at "side"))
  | with_reducible exact rc_lenI
  | with_reducible exact rc_lenT
  | with_reducible exact rc_lenIN
  | with_reducible exact rc_lenTN
  | with_reducible exact rc_lenL
  | with_reducible exact rc_lenN
  | with_reducible exact rc_lenU
  | with_reducible exact rc_listL
  | with_reducible exact rc_listU
  | with_reducible exact rc_tupL
  | with_reducible exact rc_tupN
  | ((with_reducible apply rc_isi_int); decide +kernel)
  | ((with_reducible apply rc_isi_str); decide +kernel)
  | ((with_reducible apply rc_isi_bl); decide +kernel)
  | ((with_reducible apply rc_isi_non); decide +kernel)
  | ((with_reducible apply rc_isi_u); decide +kernel)
  | ((with_reducible apply rc_isi_l); decide +kernel)))
local macro_rules | `(tactic| walk_at "er") => `(tactic| (first
  | ((with_reducible apply er_var); (exact rfl); assumption)
  | ((with_reducible apply er_v); exact rfl)
  | with_reducible exact er_c
  | ((with_reducible apply er_pick); (walk_at "er"); (walk_at "er"); (walk_at "er"))
  | ((with_reducible apply er_op); (walk_at "er"); (walk_at "er"); (walk_at "ro"))
  | ((with_reducible apply er_cb); (walk_at "era"); (walk_at "rc"))
  | ((with_reducible apply er_lst'); (walk_at "era"); (exact rfl); (walk_at "side"))
  | ((with_reducible apply er_tup'); (walk_at "era"); (exact rfl); (walk_at "side"))
  | ((with_reducible apply er_notV); (walk_at "er"))
  | ((with_reducible apply er_andV); (walk_at "er"); (intro _; (walk_at "er")))
  | ((with_reducible apply er_orV); (walk_at "er"); (intro _; (walk_at "er")))
  | ((with_reducible apply er_ite); (walk_at "et"); (intro _; (walk_at "er")); (intro _; (walk_at "er")))))
local macro_rules | `(tactic| walk_at "era") => `(tactic| (first
  | with_reducible exact era_nil
  | ((with_reducible apply era_cons); (walk_at "er"); (walk_at "era"))))
local macro_rules | `(tactic| walk_at "et") => `(tactic| (first
  | ((with_reducible apply et_an); (walk_at "et"); (intro _; (walk_at "et")))
  | ((with_reducible apply et_orr); (walk_at "et"); (intro _; (walk_at "et")))
  | ((with_reducible apply et_nt); (walk_at "et"))
  | ((with_reducible apply et1); (walk_at "er"))
  | ((with_reducible apply et2); (walk_at "er"))))

section
variable {P : Program} {w : World} {K : PySem.W.Frag} {mg : Str → Option Value} {base : Heap}
theorem er_makeF {σ : L2.St} {H : Hp} {tr : TA} {C : Addr} {n : Nat} {sts : List (List Nat × List Nat)} (h : Era K tr σ H [.i (n : Int), .L (stD sts)]) (hp : PairsOk n sts) : Er K (tMake C (spInit K C) [] E0 tr) σ H (stockD K C (n : Int) sts) := fun H1 e Q q =>
  h H1 e _ fun vs H2 e2 z => by
    rcases z with _ | ⟨z1, _ | ⟨z2, _ | _⟩⟩
    rename_i v1 v2
    obtain rfl : v1 = V.int (n : Int) := z1
    intro x dx hx hdx ne
    refine ⟨x, n, sts, v2, rfl, hp, dx, H2, H2, Ex.refl _, ?_, hx, upd_same, z2, fun G' A' s hv => ⟨rfl, q _ A' (e2.trans s.a) (hv.mono s.v)⟩⟩
    exact (Ex.new hdx).trans (Ex.new (by rw [upd_ne (Ne.symm ne)]; exact hx))

theorem stock_o {C : Addr} {n : Int} {sts : List (List Nat × List Nat)} {H : Hp} {v : V} (h : Is K H (stockD K C n sts) v) : Is K H (thD C .o) v := by
  obtain ⟨x, dx, ps, dd, kvs, rfl, h1, h2, h3⟩ := h
  exact ⟨x, dx, _, rfl, h1⟩
theorem pairs0 : PairsOk 1 [] := ⟨by simp, by simp, by simp, by simp⟩
theorem pairs1 : PairsOk 2 [([120], [97, 45])] := ⟨by simp; decide, by simp; decide, by simp, by simp⟩
abbrev s_law : Stmt := topS 38
theorem sc_law : FnScope ["script", "things", "thing", "k"] ["script"] (defScope s_law) := ⟨rfl, rfl, rfl, by decide +kernel, rfl, by decide +kernel, by decide +kernel⟩

abbrev spLaw (K : PySem.W.Frag) : Sp := spR K (fun ns : List Int => ns.length ≤ 63) (fun ns => [.l (vis ns)]) fun _ => .b true
theorem fn_law {f0 C fI : Addr} {fd0 fdI : FuncData} (T : Txt K mg) (TS : StTxt K mg C) (F : Fun K "law" "law" s_law f0 fd0) (M_init : Mk K C fI) (F_init : FnOk P w K mg base CX0 4 fI fdI ["self", "size", "stamps"] (spInit K C)) (b_init : Binds K fdI ["self", "size", "stamps"] [])
    (C__law_values : Has P w K mg base 3 "_law_values" ["script"] (sp__law_values K C)) (C__law_right : Has P w K mg base 3 "_law_right" ["thing", "by_name"] (sp__law_right K C)) : FnOk P w K mg base CX0 6 f0 fd0 ["script"] (spLaw K) := by
  refine fnR F sc_law (fun _ => rfl) fun f cdv A outer s H ns vs Q E hr hp hv hk => ?_
  replace hp : ns.length ≤ 63 := hp
  rcases hv with _ | ⟨hs, _ | _⟩
  rename_i x
  replace hs : Is K H (.l (vis ns)) x := hs
  have sc := sc_law
  refine ⟨_, (pss_cons (ps_set (i := 1) sc.nd rfl (Or.inl rfl) (pe_callH C__law_values (hr.mono (by decide)) (pa_cons (pv 0) pa_nil)))
    (pss_cons (ps_for PassesOwn.never rfl (pi_list_k (K := K) (pv 1)) (pg_name (i := 2) sc.nd rfl (Or.inl rfl)) (pss_one (ps_if (pt_not (pt_val (pe_callH C__law_right (hr.mono (by decide)) (pa_cons (pv 2) (pa_cons pe_bl pa_nil))))) (pss_one (ps_ret pe_bl)) pss_nil)))
    (pss_cons (ps_if (PW.pt (pw_or (pt_not (pt_val (pe_callH C__law_right (hr.mono (by decide)) (pa_cons (pe_make M_init F_init (hr.mono (by decide)) (by rfl) TS.mgC b_init .nil pass0 (pa_cons pe_int (pa_cons (pe_lst (pa_cons (pe_lst (pa_cons (pe_strS [120] (by rfl)) (pa_cons (pe_strS [97, 45] (by rfl)) pa_nil))) pa_nil)) pa_nil))) (pa_cons pe_bl pa_nil))))) (pw_or1 (pt_not (pt_val (pe_callH C__law_right (hr.mono (by decide)) (pa_cons (pe_make M_init F_init (hr.mono (by decide)) (by rfl) TS.mgC b_init .nil pass0 (pa_cons pe_int (pa_cons (pe_lst pa_nil) pa_nil))) (pa_cons pe_bl pa_nil)))))))) (pss_one (ps_ret pe_bl)) pss_nil)
    (pss_cons (ps_for PassesOwn.never rfl (pi_range1 (by rfl) T.b_range (pa_cons (pe_callB (cr_len_k (K := K)) (by rfl) T.b_len (by decide +kernel) (pa_cons (pv 1) pa_nil)) pa_nil)) (pg_name (i := 3) sc.nd rfl (Or.inl rfl)) (pss_one (ps_if (pt_not (pt_val (pe_callH C__law_right (hr.mono (by decide)) (pa_cons (pe_ix (ix_list_k (K := K)) (pv 1) (pe_op op_sub (pe_op op_sub (pe_callB (cr_len_k (K := K)) (by rfl) T.b_len (by decide +kernel) (pa_cons (pv 1) pa_nil)) pe_int) (pv 3)) (fun _ _ => rfl)) (pa_cons pe_bl pa_nil))))) (pss_one (ps_ret pe_bl)) pss_nil)))
    (pss_one (ps_ret (pe_cmpR (op_eqZ_k (K := K) hr.units) (pv 1) (pe_callH C__law_values (hr.mono (by decide)) (pa_cons (pv 0) pa_nil)) (nomark _)))))))), ?_⟩
  have hok := thsM_ok ns (ns.length + 8)
  have hlen := thsM_len ns (ns.length + 8)
  have no : ∀ {p : Prop}, false = true → p := fun z => absurd z (by decide)
  refine a_asg (K := K) (d := .N ((thsM ns (ns.length + 8)).map (thD C))) (er_callF ns (era_cons (er_var rfl hs) era_nil) rfl hp) fun xt H1 e1 ht => ?_
  have rt : ∀ {σ : L2.St} {H5 : Hp} {te tb : TE} {th : Th} {b : Bool}, ThOk th → Er K te σ H5 (thD C th) → Er K tb σ H5 (.b b) → Et K (tNot (tB (tCall (sp__law_right K C) [] E0 (tCons te (tCons tb tNil))))) σ H5 false := fun {σ H5 te tb th b} h he hb => et_nt (et2 (er_call (K := K) (E := E0) (ret := fun _ => .b true) (pre := fun a : Th × Bool => ThOk a.1) (args := fun a => [thD C a.1, .b a.2]) (th, b) (era_cons he (era_cons hb era_nil)) rfl h))
  generalize hT : thsM ns (ns.length + 8) = ths at *
  refine b_forN (K := K) (er_var rfl ht) (fun i σ' H' => ∃ o2, σ' = [some x, some xt, o2, none] ∧ Ex H1 H') (fun H2 e2 => ⟨none, rfl, e2⟩) ?_ ?_
  · rintro H2 e2 i d v σ' H' hd hv ⟨o2, rfl, e⟩ e3
    obtain ⟨th, hm, rfl⟩ : ∃ th, th ∈ ths ∧ thD C th = d := by
      rw [List.getElem?_map] at hd
      cases q : ths[i]? with
      | none => rw [q] at hd; cases hd
      | some th => rw [q] at hd; exact ⟨th, List.mem_of_getElem? q, Option.some.inj hd⟩
    exact a_when1 (K := K) (b := false) (rt (hok th hm).1 (er_var rfl (hv H' e3)) er_c) no fun _ H4 e4 => ⟨⟨some v, rfl, e.trans e4⟩, e3.trans e4⟩
  · rintro σ' H' e ⟨o2, rfl, e2⟩
    have ht2 := ht.mono e2
    refine a_when (K := K) (b := false || false) (et_orr (rt (th := .o) trivial (Er.as (er_makeF (n := 2) (sts := [([120], [97, 45])]) (era_cons er_c (era_cons (Er.as (d := .N [.N [.s (S [120]), .s (S [97, 45])]]) (Ef.er (ef_N (efa_cons (ef_N (efa_cons (ef_flat er_c) (efa_cons (ef_flat er_c) efa_nil)) (by simp)) efa_nil) (by simp))) (fun Hx v z => ?_)) era_nil)) pairs1) fun Hx v z => stock_o z) er_c) fun _ => rt (th := .o) trivial (Er.as (er_makeF (n := 1) (sts := []) (era_cons er_c (era_cons (Er.as (d := .N []) (Ef.er (ef_N efa_nil (by simp))) fun Hx v z => z.N2L) era_nil)) pairs0) fun Hx v z => stock_o z) er_c) (fun hb => by cases hb) fun _ H3 e3 => ?_
    · obtain ⟨p, us, rfl, hp1, hE⟩ := z.N2L
      obtain ⟨v1, r1, rfl, hv1, hr1⟩ := hE
      exact ⟨p, _, rfl, hp1, v1, r1, rfl, hv1.N2L, hr1⟩
    have ht3 := ht2.mono e3
    have E3 : Ex H H3 := (e1.trans e).trans e3
    refine b_forR1 (K := K) (n := ths.length) ?_ (by omega) (fun i σ' H' => ∃ o2 o3, σ' = [some x, some xt, o2, o3] ∧ Ex H3 H') (fun H4 e4 => ⟨o2, none, rfl, e4⟩) ?_ ?_
    · exact era_cons (Er.to (er_cb (era_cons (er_var rfl ht3) era_nil) rc_lenNd) (by rw [List.length_map])) era_nil
    · rintro i σ' H' hi ⟨o2, o3, rfl, e4⟩
      have hj : ths.length - 1 - i < ths.length := by omega
      refine a_when1 (K := K) (b := false) (rt (th := ths[ths.length - 1 - i]) (hok _ (List.getElem_mem hj)).1 (er_place (i := ths.length - 1 - i) (ds := ths.map (thD C)) (Er.as (er_var rfl (ht3.mono e4)) fun Hx v z => z.N2L) (Er.to (er_op (er_op (Er.to (er_cb (era_cons (er_var rfl (ht3.mono e4)) era_nil) rc_lenNd) (by rw [List.length_map])) er_c ro_I0) (er_v rfl) ro_I0) ?_) ?_) er_c) no fun _ H5 e5 => ⟨o2, some (.int (i : Int)), rfl, e4.trans e5⟩
      · show Dd.i ((ths.length : Int) - 1 - (i : Int)) = Dd.i _
        congr 2
        omega
      · rw [List.getElem?_map, List.getElem?_eq_getElem hj]
        rfl
    · rintro σ' H' ⟨o2, o3, rfl, e4⟩
      refine a_rete (K := K) (er_op (d1 := .L (ths.map (thD C))) (d2 := .N (ths.map (thD C))) (Er.as (er_var rfl (ht3.mono e4)) fun Hx v z => z.N2L) (Er.to (er_callF (ret := fun ns : List Int => Dd.N ((thsM ns (ns.length + 8)).map (thD C))) ns (era_cons (er_var rfl (hs.mono (E3.trans e4))) era_nil) rfl hp) (by rw [hT])) (ro_eqZ hok)) rfl (E3.trans e4) hk
end
end Mi

set_option maxHeartbeats 4000000
namespace Mi
open PySem PySem.Spec PyProof.Rows L2 Evl
theorem at_mk {K : PySem.W.Frag} {h : Heap} {mg : Str → Option Value} {x : Str} {st : Stmt} {ps : List Str} {f : Addr} {od an : Option Addr} {sl : Array (Option Value)} {oc kV dc pm cd ct : Value} (X : K.In h) (G : h.Ns mainGlobals mg)
    (a : PySem.W.nsIn K mainGlobals x = some (some (.ref f))) (l : K.lookup f = some ⟨oc, od, .func (PySem.W.fnOf x x (defArgs st) (defBody st) (defScope st) .none kV dc pm an cd ct), sl⟩) (c : PySem.W.codeIn K cd x = true) (k : PySem.W.keepIn K (.ref f) = true)
    (b0 : ∀ (kV dc pm : Value) (an : Option Addr) (cd ct : Value) (us : List Value), us.length = ps.length → bindArgs (PySem.W.fnOf x x (defArgs st) (defBody st) (defScope st) .none kV dc pm an cd ct) ⟨us, []⟩ = pure (ps.zip us))
    (b1 : ∀ (kV dc pm : Value) (an : Option Addr) (cd ct : Value), ps.length = 1 → ∀ w1 : Value, bindArgs (PySem.W.fnOf x x (defArgs st) (defBody st) (defScope st) .none kV dc pm an cd ct) ⟨[], ps.zip [w1]⟩ = pure (ps.zip [w1]))
    (b2 : ∀ (kV dc pm : Value) (an : Option Addr) (cd ct : Value), ∀ p q, ps = [p, q] → ∀ w1 w2 : Value, bindArgs (PySem.W.fnOf x x (defArgs st) (defBody st) (defScope st) .none kV dc pm an cd ct) ⟨[], [q, p].zip [w1, w2]⟩ = pure ([p, q].zip [w2, w1])) : At K mg x st ps := by
  have F := fun_mk (st := st) l c k
  exact ⟨_, _, PySem.W.mg_of X G a, F, Binds.all (b0 _ _ _ _ _ _), fun e _ w1 => .of_eq (b1 _ _ _ _ _ _ e w1), fun p q e _ w1 w2 => .of_eq (b2 _ _ _ _ _ _ p q e w1 w2)⟩
theorem at_is_layer {K : PySem.W.Frag} {h : Heap} {mg : Str → Option Value} {f : Addr} {od an : Option Addr} {sl : Array (Option Value)} {oc kV dc pm cd ct : Value} (X : K.In h) (G : h.Ns mainGlobals mg) (a : PySem.W.nsIn K mainGlobals "is_layer" = some (some (.ref f))) (l : K.lookup f = some ⟨oc, od, .func (PySem.W.fnOf "is_layer" "is_layer" (defArgs s_is_layer) (defBody s_is_layer) (defScope s_is_layer) .none kV dc pm an cd ct), sl⟩) (c : PySem.W.codeIn K cd "is_layer" = true) (k : PySem.W.keepIn K (.ref f) = true) : At K mg "is_layer" s_is_layer ["value"] :=
  at_mk X G a l c k (fun _ _ _ _ _ _ us hl => match us, hl with | [_], _ => rfl) (fun _ _ _ _ _ _ _ _ => rfl) (fun _ _ _ _ _ _ p q e => by cases e)
theorem at_is_sheet {K : PySem.W.Frag} {h : Heap} {mg : Str → Option Value} {f : Addr} {od an : Option Addr} {sl : Array (Option Value)} {oc kV dc pm cd ct : Value} (X : K.In h) (G : h.Ns mainGlobals mg) (a : PySem.W.nsIn K mainGlobals "is_sheet" = some (some (.ref f))) (l : K.lookup f = some ⟨oc, od, .func (PySem.W.fnOf "is_sheet" "is_sheet" (defArgs s_is_sheet) (defBody s_is_sheet) (defScope s_is_sheet) .none kV dc pm an cd ct), sl⟩) (c : PySem.W.codeIn K cd "is_sheet" = true) (k : PySem.W.keepIn K (.ref f) = true) : At K mg "is_sheet" s_is_sheet ["value"] :=
  at_mk X G a l c k (fun _ _ _ _ _ _ us hl => match us, hl with | [_], _ => rfl) (fun _ _ _ _ _ _ _ _ => rfl) (fun _ _ _ _ _ _ p q e => by cases e)
theorem at_cells_of {K : PySem.W.Frag} {h : Heap} {mg : Str → Option Value} {f : Addr} {od an : Option Addr} {sl : Array (Option Value)} {oc kV dc pm cd ct : Value} (X : K.In h) (G : h.Ns mainGlobals mg) (a : PySem.W.nsIn K mainGlobals "cells_of" = some (some (.ref f))) (l : K.lookup f = some ⟨oc, od, .func (PySem.W.fnOf "cells_of" "cells_of" (defArgs s_cells_of) (defBody s_cells_of) (defScope s_cells_of) .none kV dc pm an cd ct), sl⟩) (c : PySem.W.codeIn K cd "cells_of" = true) (k : PySem.W.keepIn K (.ref f) = true) : At K mg "cells_of" s_cells_of ["one"] :=
  at_mk X G a l c k (fun _ _ _ _ _ _ us hl => match us, hl with | [_], _ => rfl) (fun _ _ _ _ _ _ _ _ => rfl) (fun _ _ _ _ _ _ p q e => by cases e)
theorem at_as_tuples {K : PySem.W.Frag} {h : Heap} {mg : Str → Option Value} {f : Addr} {od an : Option Addr} {sl : Array (Option Value)} {oc kV dc pm cd ct : Value} (X : K.In h) (G : h.Ns mainGlobals mg) (a : PySem.W.nsIn K mainGlobals "as_tuples" = some (some (.ref f))) (l : K.lookup f = some ⟨oc, od, .func (PySem.W.fnOf "as_tuples" "as_tuples" (defArgs s_as_tuples) (defBody s_as_tuples) (defScope s_as_tuples) .none kV dc pm an cd ct), sl⟩) (c : PySem.W.codeIn K cd "as_tuples" = true) (k : PySem.W.keepIn K (.ref f) = true) : At K mg "as_tuples" s_as_tuples ["value"] :=
  at_mk X G a l c k (fun _ _ _ _ _ _ us hl => match us, hl with | [_], _ => rfl) (fun _ _ _ _ _ _ _ _ => rfl) (fun _ _ _ _ _ _ p q e => by cases e)
theorem at_is_name {K : PySem.W.Frag} {h : Heap} {mg : Str → Option Value} {f : Addr} {od an : Option Addr} {sl : Array (Option Value)} {oc kV dc pm cd ct : Value} (X : K.In h) (G : h.Ns mainGlobals mg) (a : PySem.W.nsIn K mainGlobals "is_name" = some (some (.ref f))) (l : K.lookup f = some ⟨oc, od, .func (PySem.W.fnOf "is_name" "is_name" (defArgs s_is_name) (defBody s_is_name) (defScope s_is_name) .none kV dc pm an cd ct), sl⟩) (c : PySem.W.codeIn K cd "is_name" = true) (k : PySem.W.keepIn K (.ref f) = true) : At K mg "is_name" s_is_name ["value"] :=
  at_mk X G a l c k (fun _ _ _ _ _ _ us hl => match us, hl with | [_], _ => rfl) (fun _ _ _ _ _ _ _ _ => rfl) (fun _ _ _ _ _ _ p q e => by cases e)
theorem at_is_stamp {K : PySem.W.Frag} {h : Heap} {mg : Str → Option Value} {f : Addr} {od an : Option Addr} {sl : Array (Option Value)} {oc kV dc pm cd ct : Value} (X : K.In h) (G : h.Ns mainGlobals mg) (a : PySem.W.nsIn K mainGlobals "is_stamp" = some (some (.ref f))) (l : K.lookup f = some ⟨oc, od, .func (PySem.W.fnOf "is_stamp" "is_stamp" (defArgs s_is_stamp) (defBody s_is_stamp) (defScope s_is_stamp) .none kV dc pm an cd ct), sl⟩) (c : PySem.W.codeIn K cd "is_stamp" = true) (k : PySem.W.keepIn K (.ref f) = true) : At K mg "is_stamp" s_is_stamp ["value", "size"] :=
  at_mk X G a l c k (fun _ _ _ _ _ _ us hl => match us, hl with | [_, _], _ => rfl) (fun _ _ _ _ _ _ e => absurd e (by decide)) (fun _ _ _ _ _ _ p q e w1 w2 => by cases e; rfl)
theorem at_check_pairs {K : PySem.W.Frag} {h : Heap} {mg : Str → Option Value} {f : Addr} {od an : Option Addr} {sl : Array (Option Value)} {oc kV dc pm cd ct : Value} (X : K.In h) (G : h.Ns mainGlobals mg) (a : PySem.W.nsIn K mainGlobals "check_pairs" = some (some (.ref f))) (l : K.lookup f = some ⟨oc, od, .func (PySem.W.fnOf "check_pairs" "check_pairs" (defArgs s_check_pairs) (defBody s_check_pairs) (defScope s_check_pairs) .none kV dc pm an cd ct), sl⟩) (c : PySem.W.codeIn K cd "check_pairs" = true) (k : PySem.W.keepIn K (.ref f) = true) : At K mg "check_pairs" s_check_pairs ["pairs", "fitting"] :=
  at_mk X G a l c k (fun _ _ _ _ _ _ us hl => match us, hl with | [_, _], _ => rfl) (fun _ _ _ _ _ _ e => absurd e (by decide)) (fun _ _ _ _ _ _ p q e w1 w2 => by cases e; rfl)
theorem at__law_cell {K : PySem.W.Frag} {h : Heap} {mg : Str → Option Value} {f : Addr} {od an : Option Addr} {sl : Array (Option Value)} {oc kV dc pm cd ct : Value} (X : K.In h) (G : h.Ns mainGlobals mg) (a : PySem.W.nsIn K mainGlobals "_law_cell" = some (some (.ref f))) (l : K.lookup f = some ⟨oc, od, .func (PySem.W.fnOf "_law_cell" "_law_cell" (defArgs s__law_cell) (defBody s__law_cell) (defScope s__law_cell) .none kV dc pm an cd ct), sl⟩) (c : PySem.W.codeIn K cd "_law_cell" = true) (k : PySem.W.keepIn K (.ref f) = true) : At K mg "_law_cell" s__law_cell ["script", "k"] :=
  at_mk X G a l c k (fun _ _ _ _ _ _ us hl => match us, hl with | [_, _], _ => rfl) (fun _ _ _ _ _ _ e => absurd e (by decide)) (fun _ _ _ _ _ _ p q e w1 w2 => by cases e; rfl)
theorem at__law_draw {K : PySem.W.Frag} {h : Heap} {mg : Str → Option Value} {f : Addr} {od an : Option Addr} {sl : Array (Option Value)} {oc kV dc pm cd ct : Value} (X : K.In h) (G : h.Ns mainGlobals mg) (a : PySem.W.nsIn K mainGlobals "_law_draw" = some (some (.ref f))) (l : K.lookup f = some ⟨oc, od, .func (PySem.W.fnOf "_law_draw" "_law_draw" (defArgs s__law_draw) (defBody s__law_draw) (defScope s__law_draw) .none kV dc pm an cd ct), sl⟩) (c : PySem.W.codeIn K cd "_law_draw" = true) (k : PySem.W.keepIn K (.ref f) = true) : At K mg "_law_draw" s__law_draw ["script", "k", "sizes"] :=
  at_mk X G a l c k (fun _ _ _ _ _ _ us hl => match us, hl with | [_, _, _], _ => rfl) (fun _ _ _ _ _ _ e => absurd e (by decide)) (fun _ _ _ _ _ _ p q e => by cases e)
theorem at__law_inks {K : PySem.W.Frag} {h : Heap} {mg : Str → Option Value} {f : Addr} {od an : Option Addr} {sl : Array (Option Value)} {oc kV dc pm cd ct : Value} (X : K.In h) (G : h.Ns mainGlobals mg) (a : PySem.W.nsIn K mainGlobals "_law_inks" = some (some (.ref f))) (l : K.lookup f = some ⟨oc, od, .func (PySem.W.fnOf "_law_inks" "_law_inks" (defArgs s__law_inks) (defBody s__law_inks) (defScope s__law_inks) .none kV dc pm an cd ct), sl⟩) (c : PySem.W.codeIn K cd "_law_inks" = true) (k : PySem.W.keepIn K (.ref f) = true) : At K mg "_law_inks" s__law_inks ["spots"] :=
  at_mk X G a l c k (fun _ _ _ _ _ _ us hl => match us, hl with | [_], _ => rfl) (fun _ _ _ _ _ _ _ _ => rfl) (fun _ _ _ _ _ _ p q e => by cases e)
theorem at__law_layer {K : PySem.W.Frag} {h : Heap} {mg : Str → Option Value} {f : Addr} {od an : Option Addr} {sl : Array (Option Value)} {oc kV dc pm cd ct : Value} (X : K.In h) (G : h.Ns mainGlobals mg) (a : PySem.W.nsIn K mainGlobals "_law_layer" = some (some (.ref f))) (l : K.lookup f = some ⟨oc, od, .func (PySem.W.fnOf "_law_layer" "_law_layer" (defArgs s__law_layer) (defBody s__law_layer) (defScope s__law_layer) .none kV dc pm an cd ct), sl⟩) (c : PySem.W.codeIn K cd "_law_layer" = true) (k : PySem.W.keepIn K (.ref f) = true) : At K mg "_law_layer" s__law_layer ["inks", "share", "spots", "wide"] :=
  at_mk X G a l c k (fun _ _ _ _ _ _ us hl => match us, hl with | [_, _, _, _], _ => rfl) (fun _ _ _ _ _ _ e => absurd e (by decide)) (fun _ _ _ _ _ _ p q e => by cases e)
theorem at__law_value {K : PySem.W.Frag} {h : Heap} {mg : Str → Option Value} {f : Addr} {od an : Option Addr} {sl : Array (Option Value)} {oc kV dc pm cd ct : Value} (X : K.In h) (G : h.Ns mainGlobals mg) (a : PySem.W.nsIn K mainGlobals "_law_value" = some (some (.ref f))) (l : K.lookup f = some ⟨oc, od, .func (PySem.W.fnOf "_law_value" "_law_value" (defArgs s__law_value) (defBody s__law_value) (defScope s__law_value) .none kV dc pm an cd ct), sl⟩) (c : PySem.W.codeIn K cd "_law_value" = true) (k : PySem.W.keepIn K (.ref f) = true) : At K mg "_law_value" s__law_value ["cell", "spots"] :=
  at_mk X G a l c k (fun _ _ _ _ _ _ us hl => match us, hl with | [_, _], _ => rfl) (fun _ _ _ _ _ _ e => absurd e (by decide)) (fun _ _ _ _ _ _ p q e w1 w2 => by cases e; rfl)
theorem at__law_name {K : PySem.W.Frag} {h : Heap} {mg : Str → Option Value} {f : Addr} {od an : Option Addr} {sl : Array (Option Value)} {oc kV dc pm cd ct : Value} (X : K.In h) (G : h.Ns mainGlobals mg) (a : PySem.W.nsIn K mainGlobals "_law_name" = some (some (.ref f))) (l : K.lookup f = some ⟨oc, od, .func (PySem.W.fnOf "_law_name" "_law_name" (defArgs s__law_name) (defBody s__law_name) (defScope s__law_name) .none kV dc pm an cd ct), sl⟩) (c : PySem.W.codeIn K cd "_law_name" = true) (k : PySem.W.keepIn K (.ref f) = true) : At K mg "_law_name" s__law_name ["spots"] :=
  at_mk X G a l c k (fun _ _ _ _ _ _ us hl => match us, hl with | [_], _ => rfl) (fun _ _ _ _ _ _ _ _ => rfl) (fun _ _ _ _ _ _ p q e => by cases e)
theorem at__law_word {K : PySem.W.Frag} {h : Heap} {mg : Str → Option Value} {f : Addr} {od an : Option Addr} {sl : Array (Option Value)} {oc kV dc pm cd ct : Value} (X : K.In h) (G : h.Ns mainGlobals mg) (a : PySem.W.nsIn K mainGlobals "_law_word" = some (some (.ref f))) (l : K.lookup f = some ⟨oc, od, .func (PySem.W.fnOf "_law_word" "_law_word" (defArgs s__law_word) (defBody s__law_word) (defScope s__law_word) .none kV dc pm an cd ct), sl⟩) (c : PySem.W.codeIn K cd "_law_word" = true) (k : PySem.W.keepIn K (.ref f) = true) : At K mg "_law_word" s__law_word ["cell", "spots"] :=
  at_mk X G a l c k (fun _ _ _ _ _ _ us hl => match us, hl with | [_, _], _ => rfl) (fun _ _ _ _ _ _ e => absurd e (by decide)) (fun _ _ _ _ _ _ p q e w1 w2 => by cases e; rfl)
theorem at__law_rank {K : PySem.W.Frag} {h : Heap} {mg : Str → Option Value} {f : Addr} {od an : Option Addr} {sl : Array (Option Value)} {oc kV dc pm cd ct : Value} (X : K.In h) (G : h.Ns mainGlobals mg) (a : PySem.W.nsIn K mainGlobals "_law_rank" = some (some (.ref f))) (l : K.lookup f = some ⟨oc, od, .func (PySem.W.fnOf "_law_rank" "_law_rank" (defArgs s__law_rank) (defBody s__law_rank) (defScope s__law_rank) .none kV dc pm an cd ct), sl⟩) (c : PySem.W.codeIn K cd "_law_rank" = true) (k : PySem.W.keepIn K (.ref f) = true) : At K mg "_law_rank" s__law_rank ["thing"] :=
  at_mk X G a l c k (fun _ _ _ _ _ _ us hl => match us, hl with | [_], _ => rfl) (fun _ _ _ _ _ _ _ _ => rfl) (fun _ _ _ _ _ _ p q e => by cases e)
theorem at__law_is_name {K : PySem.W.Frag} {h : Heap} {mg : Str → Option Value} {f : Addr} {od an : Option Addr} {sl : Array (Option Value)} {oc kV dc pm cd ct : Value} (X : K.In h) (G : h.Ns mainGlobals mg) (a : PySem.W.nsIn K mainGlobals "_law_is_name" = some (some (.ref f))) (l : K.lookup f = some ⟨oc, od, .func (PySem.W.fnOf "_law_is_name" "_law_is_name" (defArgs s__law_is_name) (defBody s__law_is_name) (defScope s__law_is_name) .none kV dc pm an cd ct), sl⟩) (c : PySem.W.codeIn K cd "_law_is_name" = true) (k : PySem.W.keepIn K (.ref f) = true) : At K mg "_law_is_name" s__law_is_name ["thing"] :=
  at_mk X G a l c k (fun _ _ _ _ _ _ us hl => match us, hl with | [_], _ => rfl) (fun _ _ _ _ _ _ _ _ => rfl) (fun _ _ _ _ _ _ p q e => by cases e)
theorem at__law_right {K : PySem.W.Frag} {h : Heap} {mg : Str → Option Value} {f : Addr} {od an : Option Addr} {sl : Array (Option Value)} {oc kV dc pm cd ct : Value} (X : K.In h) (G : h.Ns mainGlobals mg) (a : PySem.W.nsIn K mainGlobals "_law_right" = some (some (.ref f))) (l : K.lookup f = some ⟨oc, od, .func (PySem.W.fnOf "_law_right" "_law_right" (defArgs s__law_right) (defBody s__law_right) (defScope s__law_right) .none kV dc pm an cd ct), sl⟩) (c : PySem.W.codeIn K cd "_law_right" = true) (k : PySem.W.keepIn K (.ref f) = true) : At K mg "_law_right" s__law_right ["thing", "by_name"] :=
  at_mk X G a l c k (fun _ _ _ _ _ _ us hl => match us, hl with | [_, _], _ => rfl) (fun _ _ _ _ _ _ e => absurd e (by decide)) (fun _ _ _ _ _ _ p q e w1 w2 => by cases e; rfl)
theorem at__law_values {K : PySem.W.Frag} {h : Heap} {mg : Str → Option Value} {f : Addr} {od an : Option Addr} {sl : Array (Option Value)} {oc kV dc pm cd ct : Value} (X : K.In h) (G : h.Ns mainGlobals mg) (a : PySem.W.nsIn K mainGlobals "_law_values" = some (some (.ref f))) (l : K.lookup f = some ⟨oc, od, .func (PySem.W.fnOf "_law_values" "_law_values" (defArgs s__law_values) (defBody s__law_values) (defScope s__law_values) .none kV dc pm an cd ct), sl⟩) (c : PySem.W.codeIn K cd "_law_values" = true) (k : PySem.W.keepIn K (.ref f) = true) : At K mg "_law_values" s__law_values ["script"] :=
  at_mk X G a l c k (fun _ _ _ _ _ _ us hl => match us, hl with | [_], _ => rfl) (fun _ _ _ _ _ _ _ _ => rfl) (fun _ _ _ _ _ _ p q e => by cases e)
theorem at_law {K : PySem.W.Frag} {h : Heap} {mg : Str → Option Value} {f : Addr} {od an : Option Addr} {sl : Array (Option Value)} {oc kV dc pm cd ct : Value} (X : K.In h) (G : h.Ns mainGlobals mg) (a : PySem.W.nsIn K mainGlobals "law" = some (some (.ref f))) (l : K.lookup f = some ⟨oc, od, .func (PySem.W.fnOf "law" "law" (defArgs s_law) (defBody s_law) (defScope s_law) .none kV dc pm an cd ct), sl⟩) (c : PySem.W.codeIn K cd "law" = true) (k : PySem.W.keepIn K (.ref f) = true) : At K mg "law" s_law ["script"] :=
  at_mk X G a l c k (fun _ _ _ _ _ _ us hl => match us, hl with | [_], _ => rfl) (fun _ _ _ _ _ _ _ _ => rfl) (fun _ _ _ _ _ _ p q e => by cases e)
end Mi

set_option maxHeartbeats 4000000
namespace Mi
open PySem PySem.Spec PyProof.Rows L2 Evl
theorem fn_all {P : Program} {w : World} {K : PySem.W.Frag} {mg : Str → Option Value} {base : Heap} {f0 C fI : Addr} {fd0 fdI : FuncData} (O : ObTy K C) (T : Txt K mg) (TS : StTxt K mg C) (F : Fun K "law" "law" s_law f0 fd0) (M_init : Mk K C fI) (FI : Fun K "__init__" "Stock.__init__" s_Stock___init__ fI fdI) (b_init : Binds K fdI ["self", "size", "stamps"] [])
    (a_is_layer : At K mg "is_layer" s_is_layer ["value"])
    (a_is_sheet : At K mg "is_sheet" s_is_sheet ["value"])
    (a_cells_of : At K mg "cells_of" s_cells_of ["one"])
    (a_as_tuples : At K mg "as_tuples" s_as_tuples ["value"])
    (a_is_name : At K mg "is_name" s_is_name ["value"])
    (a_is_stamp : At K mg "is_stamp" s_is_stamp ["value", "size"])
    (a_check_pairs : At K mg "check_pairs" s_check_pairs ["pairs", "fitting"])
    (a__law_cell : At K mg "_law_cell" s__law_cell ["script", "k"])
    (a__law_draw : At K mg "_law_draw" s__law_draw ["script", "k", "sizes"])
    (a__law_inks : At K mg "_law_inks" s__law_inks ["spots"])
    (a__law_layer : At K mg "_law_layer" s__law_layer ["inks", "share", "spots", "wide"])
    (a__law_value : At K mg "_law_value" s__law_value ["cell", "spots"])
    (a__law_name : At K mg "_law_name" s__law_name ["spots"])
    (a__law_word : At K mg "_law_word" s__law_word ["cell", "spots"])
    (a__law_rank : At K mg "_law_rank" s__law_rank ["thing"])
    (a__law_is_name : At K mg "_law_is_name" s__law_is_name ["thing"])
    (a__law_right : At K mg "_law_right" s__law_right ["thing", "by_name"])
    (a__law_values : At K mg "_law_values" s__law_values ["script"])
    : FnOk P w K mg base CX0 6 f0 fd0 ["script"] (spLaw K) := by
  have C_is_layer := has_is_layer (P := P) (w := w) (base := base) (C := C) O T a_is_layer
  have C_is_sheet := has_is_sheet (P := P) (w := w) (base := base) (C := C) T a_is_sheet C_is_layer
  have C_cells_of := has_cells_of (P := P) (w := w) (base := base) T a_cells_of
  have C_as_tuples := has_as_tuples (P := P) (w := w) (base := base) T a_as_tuples 3
  have C_is_name := has_is_name (P := P) (w := w) (base := base) (C := C) O T a_is_name
  have C_is_stamp := has_is_stamp (P := P) (w := w) (base := base) (C := C) T a_is_stamp C_is_layer C_cells_of
  have C_check_pairs := has_check_pairs (P := P) (w := w) (base := base) (C := C) T a_check_pairs C_is_name
  have C__law_cell := has__law_cell (P := P) (w := w) (base := base) T a__law_cell
  have C__law_draw := has__law_draw (P := P) (w := w) (base := base) T a__law_draw C__law_cell
  have C__law_inks := has__law_inks (P := P) (w := w) (base := base) T a__law_inks
  have C__law_layer := has__law_layer (P := P) (w := w) (base := base) T a__law_layer
  have C__law_value := has__law_value (P := P) (w := w) (base := base) (C := C) T a__law_value C__law_inks C__law_layer
  have C__law_name := has__law_name (P := P) (w := w) (base := base) T a__law_name
  have C__law_word := has__law_word (P := P) (w := w) (base := base) (C := C) T a__law_word C__law_name
  have C__law_rank := has__law_rank (P := P) (w := w) (base := base) (C := C) O T a__law_rank
  have C__law_is_name := has__law_is_name (P := P) (w := w) (base := base) (C := C) O T a__law_is_name
  have C__law_right := has__law_right (P := P) (w := w) (base := base) (C := C) T a__law_right C_is_layer C_is_sheet C_is_name C__law_rank C__law_is_name
  have C__law_values := has__law_values (P := P) (w := w) (base := base) (C := C) T a__law_values C__law_cell C__law_draw C__law_value C__law_word
  have F_init := ok_init (P := P) (w := w) (base := base) FI T TS C_as_tuples C_is_stamp C_check_pairs
  exact fn_law T TS F M_init F_init b_init C__law_values C__law_right
theorem no_str {K : PySem.W.Frag} {C : Addr} (h : PySem.W.mroIn K C (.type "str") = some false) : PySem.W.kitOne K (.ref C) (.type "str") = some false := by
  unfold PySem.W.kitOne
  have e : (Value.ref C == Value.type "str") = false := rfl
  rw [e, if_neg Bool.false_ne_true]
  show (if PySem.W.kitMeta "str" = true then PySem.W.subIn K (.ref C) (.type "str") else none) = _
  rw [if_pos (by decide)]
  unfold PySem.W.subIn
  exact h

theorem all_mk {l : PySem.W.OpenLaw} {w : World} {K : PySem.W.Frag} {h : Heap} {mg : Str → Option Value} {fa C fI : Addr} {tD tL tM tG : Tok} {nL nN : Tok} {xD xL xM xG : Str} (X : K.In h) (G : h.Ns mainGlobals mg) (hfa : mg "law" = some (.ref fa))
    {f0 : Addr} {od0 an0 : Option Addr} {sl0 : Array (Option Value)} {oc0 kV0 dc0 pm0 cd0 ct0 : Value}
    {f1 : Addr} {od1 an1 : Option Addr} {sl1 : Array (Option Value)} {oc1 kV1 dc1 pm1 cd1 ct1 : Value}
    {f2 : Addr} {od2 an2 : Option Addr} {sl2 : Array (Option Value)} {oc2 kV2 dc2 pm2 cd2 ct2 : Value}
    {f3 : Addr} {od3 an3 : Option Addr} {sl3 : Array (Option Value)} {oc3 kV3 dc3 pm3 cd3 ct3 : Value}
    {f4 : Addr} {od4 an4 : Option Addr} {sl4 : Array (Option Value)} {oc4 kV4 dc4 pm4 cd4 ct4 : Value}
    {f5 : Addr} {od5 an5 : Option Addr} {sl5 : Array (Option Value)} {oc5 kV5 dc5 pm5 cd5 ct5 : Value}
    {f6 : Addr} {od6 an6 : Option Addr} {sl6 : Array (Option Value)} {oc6 kV6 dc6 pm6 cd6 ct6 : Value}
    {f7 : Addr} {od7 an7 : Option Addr} {sl7 : Array (Option Value)} {oc7 kV7 dc7 pm7 cd7 ct7 : Value}
    {f8 : Addr} {od8 an8 : Option Addr} {sl8 : Array (Option Value)} {oc8 kV8 dc8 pm8 cd8 ct8 : Value}
    {f9 : Addr} {od9 an9 : Option Addr} {sl9 : Array (Option Value)} {oc9 kV9 dc9 pm9 cd9 ct9 : Value}
    {f10 : Addr} {od10 an10 : Option Addr} {sl10 : Array (Option Value)} {oc10 kV10 dc10 pm10 cd10 ct10 : Value}
    {f11 : Addr} {od11 an11 : Option Addr} {sl11 : Array (Option Value)} {oc11 kV11 dc11 pm11 cd11 ct11 : Value}
    {f12 : Addr} {od12 an12 : Option Addr} {sl12 : Array (Option Value)} {oc12 kV12 dc12 pm12 cd12 ct12 : Value}
    {f13 : Addr} {od13 an13 : Option Addr} {sl13 : Array (Option Value)} {oc13 kV13 dc13 pm13 cd13 ct13 : Value}
    {f14 : Addr} {od14 an14 : Option Addr} {sl14 : Array (Option Value)} {oc14 kV14 dc14 pm14 cd14 ct14 : Value}
    {f15 : Addr} {od15 an15 : Option Addr} {sl15 : Array (Option Value)} {oc15 kV15 dc15 pm15 cd15 ct15 : Value}
    {f16 : Addr} {od16 an16 : Option Addr} {sl16 : Array (Option Value)} {oc16 kV16 dc16 pm16 cd16 ct16 : Value}
    {f17 : Addr} {od17 an17 : Option Addr} {sl17 : Array (Option Value)} {oc17 kV17 dc17 pm17 cd17 ct17 : Value}
    {f18 : Addr} {od18 an18 : Option Addr} {sl18 : Array (Option Value)} {oc18 kV18 dc18 pm18 cd18 ct18 : Value}
    {odI anI : Option Addr} {slI : Array (Option Value)} {ocI kVI dcI pmI cdI ctI : Value}
    (a0 : PySem.W.nsIn K mainGlobals "is_layer" = some (some (.ref f0))) (l0 : K.lookup f0 = some ⟨oc0, od0, .func (PySem.W.fnOf "is_layer" "is_layer" (defArgs s_is_layer) (defBody s_is_layer) (defScope s_is_layer) .none kV0 dc0 pm0 an0 cd0 ct0), sl0⟩) (c0 : PySem.W.codeIn K cd0 "is_layer" = true) (k0 : PySem.W.keepIn K (.ref f0) = true)
    (a1 : PySem.W.nsIn K mainGlobals "is_sheet" = some (some (.ref f1))) (l1 : K.lookup f1 = some ⟨oc1, od1, .func (PySem.W.fnOf "is_sheet" "is_sheet" (defArgs s_is_sheet) (defBody s_is_sheet) (defScope s_is_sheet) .none kV1 dc1 pm1 an1 cd1 ct1), sl1⟩) (c1 : PySem.W.codeIn K cd1 "is_sheet" = true) (k1 : PySem.W.keepIn K (.ref f1) = true)
    (a2 : PySem.W.nsIn K mainGlobals "cells_of" = some (some (.ref f2))) (l2 : K.lookup f2 = some ⟨oc2, od2, .func (PySem.W.fnOf "cells_of" "cells_of" (defArgs s_cells_of) (defBody s_cells_of) (defScope s_cells_of) .none kV2 dc2 pm2 an2 cd2 ct2), sl2⟩) (c2 : PySem.W.codeIn K cd2 "cells_of" = true) (k2 : PySem.W.keepIn K (.ref f2) = true)
    (a3 : PySem.W.nsIn K mainGlobals "as_tuples" = some (some (.ref f3))) (l3 : K.lookup f3 = some ⟨oc3, od3, .func (PySem.W.fnOf "as_tuples" "as_tuples" (defArgs s_as_tuples) (defBody s_as_tuples) (defScope s_as_tuples) .none kV3 dc3 pm3 an3 cd3 ct3), sl3⟩) (c3 : PySem.W.codeIn K cd3 "as_tuples" = true) (k3 : PySem.W.keepIn K (.ref f3) = true)
    (a4 : PySem.W.nsIn K mainGlobals "is_name" = some (some (.ref f4))) (l4 : K.lookup f4 = some ⟨oc4, od4, .func (PySem.W.fnOf "is_name" "is_name" (defArgs s_is_name) (defBody s_is_name) (defScope s_is_name) .none kV4 dc4 pm4 an4 cd4 ct4), sl4⟩) (c4 : PySem.W.codeIn K cd4 "is_name" = true) (k4 : PySem.W.keepIn K (.ref f4) = true)
    (a5 : PySem.W.nsIn K mainGlobals "is_stamp" = some (some (.ref f5))) (l5 : K.lookup f5 = some ⟨oc5, od5, .func (PySem.W.fnOf "is_stamp" "is_stamp" (defArgs s_is_stamp) (defBody s_is_stamp) (defScope s_is_stamp) .none kV5 dc5 pm5 an5 cd5 ct5), sl5⟩) (c5 : PySem.W.codeIn K cd5 "is_stamp" = true) (k5 : PySem.W.keepIn K (.ref f5) = true)
    (a6 : PySem.W.nsIn K mainGlobals "check_pairs" = some (some (.ref f6))) (l6 : K.lookup f6 = some ⟨oc6, od6, .func (PySem.W.fnOf "check_pairs" "check_pairs" (defArgs s_check_pairs) (defBody s_check_pairs) (defScope s_check_pairs) .none kV6 dc6 pm6 an6 cd6 ct6), sl6⟩) (c6 : PySem.W.codeIn K cd6 "check_pairs" = true) (k6 : PySem.W.keepIn K (.ref f6) = true)
    (a7 : PySem.W.nsIn K mainGlobals "_law_cell" = some (some (.ref f7))) (l7 : K.lookup f7 = some ⟨oc7, od7, .func (PySem.W.fnOf "_law_cell" "_law_cell" (defArgs s__law_cell) (defBody s__law_cell) (defScope s__law_cell) .none kV7 dc7 pm7 an7 cd7 ct7), sl7⟩) (c7 : PySem.W.codeIn K cd7 "_law_cell" = true) (k7 : PySem.W.keepIn K (.ref f7) = true)
    (a8 : PySem.W.nsIn K mainGlobals "_law_draw" = some (some (.ref f8))) (l8 : K.lookup f8 = some ⟨oc8, od8, .func (PySem.W.fnOf "_law_draw" "_law_draw" (defArgs s__law_draw) (defBody s__law_draw) (defScope s__law_draw) .none kV8 dc8 pm8 an8 cd8 ct8), sl8⟩) (c8 : PySem.W.codeIn K cd8 "_law_draw" = true) (k8 : PySem.W.keepIn K (.ref f8) = true)
    (a9 : PySem.W.nsIn K mainGlobals "_law_inks" = some (some (.ref f9))) (l9 : K.lookup f9 = some ⟨oc9, od9, .func (PySem.W.fnOf "_law_inks" "_law_inks" (defArgs s__law_inks) (defBody s__law_inks) (defScope s__law_inks) .none kV9 dc9 pm9 an9 cd9 ct9), sl9⟩) (c9 : PySem.W.codeIn K cd9 "_law_inks" = true) (k9 : PySem.W.keepIn K (.ref f9) = true)
    (a10 : PySem.W.nsIn K mainGlobals "_law_layer" = some (some (.ref f10))) (l10 : K.lookup f10 = some ⟨oc10, od10, .func (PySem.W.fnOf "_law_layer" "_law_layer" (defArgs s__law_layer) (defBody s__law_layer) (defScope s__law_layer) .none kV10 dc10 pm10 an10 cd10 ct10), sl10⟩) (c10 : PySem.W.codeIn K cd10 "_law_layer" = true) (k10 : PySem.W.keepIn K (.ref f10) = true)
    (a11 : PySem.W.nsIn K mainGlobals "_law_value" = some (some (.ref f11))) (l11 : K.lookup f11 = some ⟨oc11, od11, .func (PySem.W.fnOf "_law_value" "_law_value" (defArgs s__law_value) (defBody s__law_value) (defScope s__law_value) .none kV11 dc11 pm11 an11 cd11 ct11), sl11⟩) (c11 : PySem.W.codeIn K cd11 "_law_value" = true) (k11 : PySem.W.keepIn K (.ref f11) = true)
    (a12 : PySem.W.nsIn K mainGlobals "_law_name" = some (some (.ref f12))) (l12 : K.lookup f12 = some ⟨oc12, od12, .func (PySem.W.fnOf "_law_name" "_law_name" (defArgs s__law_name) (defBody s__law_name) (defScope s__law_name) .none kV12 dc12 pm12 an12 cd12 ct12), sl12⟩) (c12 : PySem.W.codeIn K cd12 "_law_name" = true) (k12 : PySem.W.keepIn K (.ref f12) = true)
    (a13 : PySem.W.nsIn K mainGlobals "_law_word" = some (some (.ref f13))) (l13 : K.lookup f13 = some ⟨oc13, od13, .func (PySem.W.fnOf "_law_word" "_law_word" (defArgs s__law_word) (defBody s__law_word) (defScope s__law_word) .none kV13 dc13 pm13 an13 cd13 ct13), sl13⟩) (c13 : PySem.W.codeIn K cd13 "_law_word" = true) (k13 : PySem.W.keepIn K (.ref f13) = true)
    (a14 : PySem.W.nsIn K mainGlobals "_law_rank" = some (some (.ref f14))) (l14 : K.lookup f14 = some ⟨oc14, od14, .func (PySem.W.fnOf "_law_rank" "_law_rank" (defArgs s__law_rank) (defBody s__law_rank) (defScope s__law_rank) .none kV14 dc14 pm14 an14 cd14 ct14), sl14⟩) (c14 : PySem.W.codeIn K cd14 "_law_rank" = true) (k14 : PySem.W.keepIn K (.ref f14) = true)
    (a15 : PySem.W.nsIn K mainGlobals "_law_is_name" = some (some (.ref f15))) (l15 : K.lookup f15 = some ⟨oc15, od15, .func (PySem.W.fnOf "_law_is_name" "_law_is_name" (defArgs s__law_is_name) (defBody s__law_is_name) (defScope s__law_is_name) .none kV15 dc15 pm15 an15 cd15 ct15), sl15⟩) (c15 : PySem.W.codeIn K cd15 "_law_is_name" = true) (k15 : PySem.W.keepIn K (.ref f15) = true)
    (a16 : PySem.W.nsIn K mainGlobals "_law_right" = some (some (.ref f16))) (l16 : K.lookup f16 = some ⟨oc16, od16, .func (PySem.W.fnOf "_law_right" "_law_right" (defArgs s__law_right) (defBody s__law_right) (defScope s__law_right) .none kV16 dc16 pm16 an16 cd16 ct16), sl16⟩) (c16 : PySem.W.codeIn K cd16 "_law_right" = true) (k16 : PySem.W.keepIn K (.ref f16) = true)
    (a17 : PySem.W.nsIn K mainGlobals "_law_values" = some (some (.ref f17))) (l17 : K.lookup f17 = some ⟨oc17, od17, .func (PySem.W.fnOf "_law_values" "_law_values" (defArgs s__law_values) (defBody s__law_values) (defScope s__law_values) .none kV17 dc17 pm17 an17 cd17 ct17), sl17⟩) (c17 : PySem.W.codeIn K cd17 "_law_values" = true) (k17 : PySem.W.keepIn K (.ref f17) = true)
    (a18 : PySem.W.nsIn K mainGlobals "law" = some (some (.ref f18))) (l18 : K.lookup f18 = some ⟨oc18, od18, .func (PySem.W.fnOf "law" "law" (defArgs s_law) (defBody s_law) (defScope s_law) .none kV18 dc18 pm18 an18 cd18 ct18), sl18⟩) (c18 : PySem.W.codeIn K cd18 "law" = true) (k18 : PySem.W.keepIn K (.ref f18) = true)
    (aI : PySem.W.findIn K (.ref C) "__init__" = some (some (.ref fI))) (iI : PySem.W.isFn K (.ref fI) = true) (lI : K.lookup fI = some ⟨ocI, odI, .func (PySem.W.fnOf "__init__" "Stock.__init__" (defArgs s_Stock___init__) (defBody s_Stock___init__) (defScope s_Stock___init__) .none kVI dcI pmI anI cdI ctI), slI⟩) (cI : PySem.W.codeIn K cdI "Stock.__init__" = true) (kI : PySem.W.keepIn K (.ref fI) = true)
    (aC : PySem.W.nsIn K mainGlobals "Stock" = some (some (.ref C))) (pg : PySem.W.plainGet K C Str.empty = true) (hd : PySem.W.hasDictIn K C = true) (po : PySem.W.plainOver K C = true) (sa : PySem.W.findIn K (.ref C) "__setattr__" = some (some (.builtin "object.__setattr__"))) (mk : PySem.W.makesIn K C = true) (kc : PySem.W.keepIn K (.ref C) = true) (nS : PySem.W.findIn K (.ref C) "size" = some none) (nT : PySem.W.findIn K (.ref C) "stamps" = some none) (nO : PySem.W.findIn K (.ref C) "_stamp_of" = some none) (oF : PySem.W.findIn K (.ref C) "__class__" = some (some (.builtin "object.__class__"))) (oS : PySem.W.specialIn K (.builtin "object.__class__") "__get__" = some (some (.builtin "getset_descriptor.__get__"))) (oT : PySem.W.takesIn K (.builtin "object.__class__") = some true) (oM : PySem.W.mroIn K C (.type "object") = some true) (oN : PySem.W.mroIn K C (.type "str") = some false)
    (gD : PySem.W.nsIn K mainGlobals "DASH" = some (some (.str xD tD))) (gL : PySem.W.nsIn K mainGlobals "LETTERS" = some (some (.str xL tL))) (gM : PySem.W.nsIn K mainGlobals "MARKS" = some (some (.str xM tM))) (gG : PySem.W.nsIn K mainGlobals "DIGITS" = some (some (.str xG tG))) (gN : PySem.W.nsIn K mainGlobals "LONGEST" = some (some (.int 30 nL))) (gO : PySem.W.nsIn K mainGlobals "LONGEST_NAME" = some (some (.int 8 nN))) (eD : xD = S [45]) (eL : xL = S letters) (eM : xM = S alls) (eG : xG = S digits)
    (z_len : PySem.W.nsIn K mainGlobals "len" = some none)
    (z_int : PySem.W.nsIn K mainGlobals "int" = some none)
    (z_bool : PySem.W.nsIn K mainGlobals "bool" = some none)
    (z_str : PySem.W.nsIn K mainGlobals "str" = some none)
    (z_tuple : PySem.W.nsIn K mainGlobals "tuple" = some none)
    (z_list : PySem.W.nsIn K mainGlobals "list" = some none)
    (z_zip : PySem.W.nsIn K mainGlobals "zip" = some none)
    (z_enumerate : PySem.W.nsIn K mainGlobals "enumerate" = some none)
    (z_range : PySem.W.nsIn K mainGlobals "range" = some none)
    (z_max : PySem.W.nsIn K mainGlobals "max" = some none)
    (z_min : PySem.W.nsIn K mainGlobals "min" = some none)
    (z_sum : PySem.W.nsIn K mainGlobals "sum" = some none)
    (z_all : PySem.W.nsIn K mainGlobals "all" = some none)
    (z_isinstance : PySem.W.nsIn K mainGlobals "isinstance" = some none)
    (z_iter : PySem.W.nsIn K mainGlobals "iter" = some none)
    : ∃ fd : FuncData, (∀ (s : Shared) (v : Value), BindsTo s fd ⟨[v], []⟩ [("script", v)]) ∧ ∀ base : Heap, K.In base → base.Ns mainGlobals mg → FnOk l.prog w K mg base CX0 6 fa fd ["script"] (spLaw K) := by
  have e := hfa.symm.trans (PySem.W.mg_of X G a18)
  cases e
  subst eD
  subst eL
  subst eM
  subst eG
  have T : Txt K mg := ⟨⟨_, PySem.W.mg_of X G gD⟩, ⟨_, PySem.W.mg_of X G gL⟩, ⟨_, PySem.W.mg_of X G gM⟩, ⟨_, PySem.W.mg_of X G gN⟩, ⟨_, PySem.W.mg_of X G gG⟩, ⟨_, PySem.W.mg_of X G gO⟩, PySem.W.mg_none_of X G z_len, PySem.W.mg_none_of X G z_int, PySem.W.mg_none_of X G z_bool, PySem.W.mg_none_of X G z_str, PySem.W.mg_none_of X G z_tuple, PySem.W.mg_none_of X G z_list, PySem.W.mg_none_of X G z_zip, PySem.W.mg_none_of X G z_enumerate, PySem.W.mg_none_of X G z_range, PySem.W.mg_none_of X G z_max, PySem.W.mg_none_of X G z_min, PySem.W.mg_none_of X G z_sum, PySem.W.mg_none_of X G z_all, PySem.W.mg_none_of X G z_isinstance, PySem.W.mg_none_of X G z_iter⟩
  have TS : StTxt K mg C := ⟨⟨pg, hd, po, sa⟩, nS, nT, nO, PySem.W.mg_of X G aC⟩
  have O : ObTy K C := ⟨⟨pg, hd, po, sa⟩, oF, oS, oT, oM, no_str oN⟩
  have F := fun_mk (st := s_law) l18 c18 k18
  have FI := fun_mk (st := s_Stock___init__) lI cI kI
  have bI := FI.binds (ps := ["self", "size", "stamps"]) fun _ _ _ _ _ _ us hl => match us, hl with | [_, _, _], _ => rfl
  exact ⟨_, fun s v => .of_eq rfl, fun base _ _ => fn_all O T TS F ⟨mk, aI, iI, kc⟩ FI bI (at_is_layer X G a0 l0 c0 k0) (at_is_sheet X G a1 l1 c1 k1) (at_cells_of X G a2 l2 c2 k2) (at_as_tuples X G a3 l3 c3 k3) (at_is_name X G a4 l4 c4 k4) (at_is_stamp X G a5 l5 c5 k5) (at_check_pairs X G a6 l6 c6 k6) (at__law_cell X G a7 l7 c7 k7) (at__law_draw X G a8 l8 c8 k8) (at__law_inks X G a9 l9 c9 k9) (at__law_layer X G a10 l10 c10 k10) (at__law_value X G a11 l11 c11 k11) (at__law_name X G a12 l12 c12 k12) (at__law_word X G a13 l13 c13 k13) (at__law_rank X G a14 l14 c14 k14) (at__law_is_name X G a15 l15 c15 k15) (at__law_right X G a16 l16 c16 k16) (at__law_values X G a17 l17 c17 k17)⟩
end Mi
open PySem PySem.W PyProof.Rows
set_option maxHeartbeats 0 in
theorem PySem.Challenge.cw_stampsheets_k00_layers_judged_holds : PySem.Challenge.rw_stampsheets_k00_layers_judged.Holds := by
  w_on; o_law; k_head; (case hw => w_witness2)
  k_fill
  refine L2.walk_of (l := PySem.Challenge.rw_stampsheets_k00_layers_judged) (n := 63) (k := 6) (x := "script") (CX := fun _ => L2.CX0) (sp := fun w => Mi.spLaw _) rfl (by decide) rfl ⟨rfl, by decide, by decide⟩ (fun w h Y => PySem.W.kIn_of Y) ?F (fun _ _ a ns hl _ hS => ⟨ns, hl, .cons ⟨a, rfl, hS⟩ .nil, fun v H2 _ hv => hv⟩) (fun _ _ _ _ _ h => h)
  case F =>
    intro w mg fa h KX G hmg
    refine' Mi.all_mk KX G hmg ?a0 ?l0 ?c0 ?k0 ?a1 ?l1 ?c1 ?k1 ?a2 ?l2 ?c2 ?k2 ?a3 ?l3 ?c3 ?k3 ?a4 ?l4 ?c4 ?k4 ?a5 ?l5 ?c5 ?k5 ?a6 ?l6 ?c6 ?k6 ?a7 ?l7 ?c7 ?k7 ?a8 ?l8 ?c8 ?k8 ?a9 ?l9 ?c9 ?k9 ?a10 ?l10 ?c10 ?k10 ?a11 ?l11 ?c11 ?k11 ?a12 ?l12 ?c12 ?k12 ?a13 ?l13 ?c13 ?k13 ?a14 ?l14 ?c14 ?k14 ?a15 ?l15 ?c15 ?k15 ?a16 ?l16 ?c16 ?k16 ?a17 ?l17 ?c17 ?k17 ?a18 ?l18 ?c18 ?k18 ?aI ?iI ?lI ?cI ?kI ?aC ?pg ?hd ?po ?sa ?mk ?kc ?nS ?nT ?nO ?oF ?oS ?oT ?oM ?oN ?gD ?gL ?gM ?gG ?gN ?gO ?eD ?eL ?eM ?eG ?z_len ?z_int ?z_bool ?z_str ?z_tuple ?z_list ?z_zip ?z_enumerate ?z_range ?z_max ?z_min ?z_sum ?z_all ?z_isinstance ?z_iter
    case aC => k_is
    case a0 => k_is
    case l0 => k_is
    case c0 => k_is
    case k0 => k_is
    case a1 => k_is
    case l1 => k_is
    case c1 => k_is
    case k1 => k_is
    case a2 => k_is
    case l2 => k_is
    case c2 => k_is
    case k2 => k_is
    case a3 => k_is
    case l3 => k_is
    case c3 => k_is
    case k3 => k_is
    case a4 => k_is
    case l4 => k_is
    case c4 => k_is
    case k4 => k_is
    case a5 => k_is
    case l5 => k_is
    case c5 => k_is
    case k5 => k_is
    case a6 => k_is
    case l6 => k_is
    case c6 => k_is
    case k6 => k_is
    case a7 => k_is
    case l7 => k_is
    case c7 => k_is
    case k7 => k_is
    case a8 => k_is
    case l8 => k_is
    case c8 => k_is
    case k8 => k_is
    case a9 => k_is
    case l9 => k_is
    case c9 => k_is
    case k9 => k_is
    case a10 => k_is
    case l10 => k_is
    case c10 => k_is
    case k10 => k_is
    case a11 => k_is
    case l11 => k_is
    case c11 => k_is
    case k11 => k_is
    case a12 => k_is
    case l12 => k_is
    case c12 => k_is
    case k12 => k_is
    case a13 => k_is
    case l13 => k_is
    case c13 => k_is
    case k13 => k_is
    case a14 => k_is
    case l14 => k_is
    case c14 => k_is
    case k14 => k_is
    case a15 => k_is
    case l15 => k_is
    case c15 => k_is
    case k15 => k_is
    case a16 => k_is
    case l16 => k_is
    case c16 => k_is
    case k16 => k_is
    case a17 => k_is
    case l17 => k_is
    case c17 => k_is
    case k17 => k_is
    case a18 => k_is
    case l18 => k_is
    case c18 => k_is
    case k18 => k_is
    case aI => k_is
    case iI => k_is
    case lI => k_is
    case cI => k_is
    case kI => k_is
    case pg => k_is
    case hd => k_is
    case po => k_is
    case sa => k_is
    case mk => k_is
    case kc => k_is
    case nS => k_is
    case nT => k_is
    case nO => k_is
    case oF => k_is
    case oS => k_is
    case oT => k_is
    case oM => k_is
    case oN => k_is
    case gD => k_is
    case gL => k_is
    case gM => k_is
    case gG => k_is
    case gN => k_is
    case gO => k_is
    case z_len => k_is
    case z_int => k_is
    case z_bool => k_is
    case z_str => k_is
    case z_tuple => k_is
    case z_list => k_is
    case z_zip => k_is
    case z_enumerate => k_is
    case z_range => k_is
    case z_max => k_is
    case z_min => k_is
    case z_sum => k_is
    case z_all => k_is
    case z_isinstance => k_is
    case z_iter => k_is
    case eD => rfl
    case eL => rfl
    case eM => rfl
    case eG => rfl

