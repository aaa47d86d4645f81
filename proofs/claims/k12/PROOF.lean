import PyProof.Rows.All
import Wide.All
import OpenK.AllK
import Wide.FinOn
import HandS.ForExc
import HandS.Comp
import HandS.Evl
import HandS.Wide
import HandS.IsInst
import HandS.ExcInit
import HandS.ExcField
import HandS.TupAny
import HandS.EndBits
import PyProof.ReprRoads
import KE.KExcIs
import KE.RegKIsAll
import HandS.ExcIs
import PyProof.NeKinds
import PyProof.StrLawsRepr
import HandS.Dict
import HandS.ClsMeth
import HandS.More
import KE.KAssignIn
import HandS.OwnEq
import KE.GoesMore
import KE.GoesNew
import HandS.Iter
import HandS.Walk
import HandS.Star
import HandS.Text
import HandS.StrMore
import HandS.FStr
import HandS.RaiseMore
import KE.KUnpackStar
import PyProof.StrLawsLast
import HandS.Property
import HandS.DictTup
import PyProof.DictMoreH
import PyProof.SliceList
import HandS.ExcOwn
import PySem.Challenge.RW_trulymade_k12_rows_refused
set_option Elab.async false
set_option linter.all false
set_option maxRecDepth 100000
set_option maxHeartbeats 2000000
namespace Fd
open PySem PySem.Spec PyProof.Rows L2

/-! ### heaps -/
theorem same_new {H : Hp} {p : Addr} {o : HO} (n : H p = none) : Same H (upd H p o) := fun b x e => by
  rw [upd_ne (ne_of_none e n)]
  exact e
theorem same_mut {H H' : Hp} {p : Addr} {o : HO} (s : Same H H') (n : H p = none) : Same H (upd H' p o) := fun b x e => by
  rw [upd_ne (ne_of_none e n)]
  exact s b x e
theorem same_t {K : PySem.W.Frag} {H H' : Hp} {a : Addr} {xs : List V} (s : Same H H') (h : SqT K H a xs) : SqT K H' a xs := Evl.ex_t s h
theorem same_l {K : PySem.W.Frag} {H H' : Hp} {a : Addr} {xs : List V} (s : Same H H') (h : SqL K H a xs) : SqL K H' a xs := Evl.ex_l s h

/-! ### a def that stands behind the top, with its promise -/
section
variable (P : Program) (w : World) (K : PySem.W.Frag) (mg : Str → Option Value) (base : Heap)
/-- the def called x keeps the promise sp by at most level k -/
structure Pr (k : Nat) (x : Str) (ps : List Str) (sp : Sp) : Prop where
  ex : ∃ (f : Addr) (fd : FuncData), mg x = some (.ref f) ∧ PySem.W.keepIn K (.ref f) = true ∧ Binds K fd ps [] ∧ FnOk P w K mg base (L2.CX P w) k f fd ps sp
/-- the def called x as the top left it -/
structure Dx (x : Str) (st : Stmt) (ps : List Str) : Prop where
  ex : ∃ (f : Addr) (fd : FuncData), mg x = some (.ref f) ∧ Binds K fd ps [] ∧ Fun K x x st f fd
end
section
variable {P : Program} {w : World} {K : PySem.W.Frag} {mg : Str → Option Value} {base : Heap}
theorem Dx.pr {x : Str} {st : Stmt} {N ps : List Str} {k : Nat} {sp : Sp} (D : Dx K mg x st ps) (S : FnScope N ps (defScope st)) (len : ∀ vs H Q E, sp vs H Q E → vs.length = ps.length)
    (body : ∀ (f : Addr) (cdv : Value) (A : Around) (outer : List Env) (s : Shared) (H : Hp) (vs : List V) (Q : VK) (E : XK), Room k (A.deeper (envOfC x (defScope st) s.heap.objs.size f cdv)) → sp vs H Q E →
      ∃ t, PSs (cxOf (L2.CX P w) P w K mg base N x (defScope st) f cdv A outer s H E) (defBody st) t ∧ t { nx := fun _ H' => Q .non H', rt := Q } (start N vs) H) : Pr P w K mg base (k + 1) x ps sp := by
  obtain ⟨f, fd, g, b, F⟩ := D.ex
  exact ⟨f, fd, g, F.kp, b, F.okX S len fun cdv A outer s H vs Q E hr h => body f cdv A outer s H vs Q E hr h⟩
theorem dx_mk {x : Str} {st : Stmt} {ps : List Str} {f : Addr} {oc : Value} {od an : Option Addr} {osl : Array (Option Value)} {kV doc pm cdv ct : Value} {h : Heap} (X : K.In h) (G : h.Ns mainGlobals mg) (a : PySem.W.nsIn K mainGlobals x = some (some (.ref f)))
    (l : K.lookup f = some ⟨oc, od, .func (PySem.W.fnOf x x (defArgs st) (defBody st) (defScope st) .none kV doc pm an cdv ct), osl⟩) (c : PySem.W.codeIn K cdv x = true) (k : PySem.W.keepIn K (.ref f) = true)
    (hb : ∀ (kV doc pm : Value) (an : Option Addr) (cdv ct : Value) (us : List Value), us.length = ps.length → bindArgs (PySem.W.fnOf x x (defArgs st) (defBody st) (defScope st) .none kV doc pm an cdv ct) ⟨us, []⟩ = pure (ps.zip us)) : Dx K mg x st ps :=
  ⟨f, _, PySem.W.mg_of X G a, (fun_mk (st := st) l c k).binds hb, fun_mk (st := st) l c k⟩
end
section
variable {X : Cx} {k : Nat} {x : Str} {ps : List Str} {sp : Sp} {E : XK} {e : Expr} {es : List Expr} {t : TA} {p pos : Pos}
/-- a call of such a def; what it lets out is wished for as E says -/
theorem pe_callP (C : Pr X.prog X.w X.K X.mg X.base k x ps sp) (hr : Room k X.A) (hg : Gl X x) (hx : Passes (L2.CX X.prog X.w) X E) (ha : PA X (e :: es) t) (hdb : (x == ("__debug__" : Str)) = false := by decide)
    (he : starEach (e :: es) X.env = (false, eval e X.env) :: starEach es X.env := by rfl) (hpl : (backTo pos (starEach es X.env)).any (·.1) = false := by rfl) : PE X (.Call (.Name x p) (e :: es) [] pos) (tCall sp [] E t) := by
  obtain ⟨f, fd, g, kp, b, F⟩ := C.ex
  exact pe_call F hr hg g kp b .nil hx ha hdb he hpl
end

/-! ### what is walked: a list or a tuple -/
/-- a sequence, of which kind is left open -/
def SqS (K : PySem.W.Frag) (H : Hp) (a : Addr) (xs : List V) : Prop := SqL K H a xs ∨ SqT K H a xs
def iSeq (K : PySem.W.Frag) (tl : TE) : TI := fun σ H R => tl σ H fun x H1 => ∃ a, x = .ref a ∧ (((∃ xs, SqL K H1 a xs) ∧ R (Itl K a) H1) ∨ ((∃ xs, SqT K H1 a xs) ∧ R (Itt K a) H1))
theorem pi_seq {X : Cx} {tg l : Expr} {tl : TE} (hl : PE X l tl) : PI X tg l (iSeq X.K tl) := by
  constructor
  intro pins s σ H R I h
  refine thn (hl.run pins s σ H _ I h) ?_
  rintro v s1 ⟨x, H1, I1, r1, a, rfl, q⟩
  cases r1
  have fresh : FpOk X pins H1 s1.heap.objs.size := I1.fpOk (Nat.le_refl _) (I1.hok.fresh (Nat.le_refl _))
  have all : ∀ b ∈ [s1.heap.objs.size], FpOk X pins H1 b := fun b hb => by
    rw [List.mem_singleton.mp hb]
    exact fresh
  rcases q with ⟨⟨xs, hq⟩, q⟩ | ⟨⟨xs, hq⟩, q⟩
  · obtain ⟨its, _, pl, _⟩ := I1.list hq
    exact wpAny_pyIter_list pl.isList ⟨_, [_], _, Itl X.K a, H1, rfl, I1.kept (t' := s1.toks) fun _ _ e => Heap.get?_push_of_some _ e, turn_list a _, ⟨_, Heap.get?_push_size _ rfl, rfl, rfl⟩, all, q⟩
  · obtain ⟨its, _, pt, _⟩ := I1.tuple hq
    exact wpAny_pyIter_tuple (show s1.heap.IsTuple a its.toArray from pt) ⟨_, [_], _, Itt X.K a, H1, rfl, I1.kept (t' := s1.toks) fun _ _ e => Heap.get?_push_of_some _ e, turn_tuple a _, ⟨_, Heap.get?_push_size _ rfl, rfl, rfl⟩, all, q⟩

/-! ### errors that keep a value -/
theorem PMk.imp {X : Cx} {e : Expr} {t u : L2.St → Hp → XK → Prop} (h : PMk X e t) (i : ∀ σ H Q, u σ H Q → t σ H Q) : PMk X e u := fun pins s σ H Q I q => h pins s σ H Q I (i σ H Q q)
/-- what __init__(self, value) of the errors promises -/
def spInit (K : PySem.W.Frag) : Sp := fun vs H Q _ => ∃ (a C : Addr) (v : V), vs = [.ref a, v] ∧ OexC K C ∧ PySem.W.findIn K (.ref C) "value" = some none ∧ H a = some (exo a C none) ∧
  ∀ dx, H dx = none → dx ≠ a → Q .non (upd (upd H dx (exd dx [("value", v)])) a (exo a C (some dx)))
/-- __init__ at fI -/
structure InitOk (P : Program) (w : World) (K : PySem.W.Frag) (mg : Str → Option Value) (base : Heap) (k : Nat) (fI : Addr) : Prop where
  ty : PySem.W.typeIn K (.ref fI) = some (.type "function")
  ok : ∃ fd, Binds K fd ["self", "value"] [] ∧ FnOk P w K mg base (L2.CX P w) k fI fd ["self", "value"] (spInit K)
/-- the class x stands at C and has fI as its __init__ -/
structure Ex (K : PySem.W.Frag) (mg : Str → Option Value) (x : Str) (C fI : Addr) : Prop where
  g : mg x = some (.ref C)
  o : OexC K C
  i : PySem.W.findIn K (.ref C) "__init__" = some (some (.ref fI))
  v : PySem.W.findIn K (.ref C) "value" = some none
/-- x(e) -/
def tMade (C : Addr) (te : TE) : L2.St → Hp → XK → Prop := fun σ H Q => te σ H fun v H1 => ∀ d, H1 d = none → Q (.ref C) (some d) (upd H1 d (.xd [(("value" : Str), v)]))
theorem upd_back {H : Hp} {a d : Addr} {o1 o2 o3 o4 : HO} (na : H a = none) (ne : d ≠ a) : upd (del (upd (upd (upd H a o1) d o2) a o3) a) d o4 = upd H d o4 := by
  funext b
  by_cases hd : b = d
  · rw [hd, upd_same, upd_same]
  · rw [upd_ne hd, upd_ne hd]
    by_cases ha : b = a
    · rw [ha, del_same, na]
    · rw [del_ne ha, upd_ne ha, upd_ne hd, upd_ne ha]
/-- a reading, weakened behind -/
def mon (te : TE) : TE := fun σ H Q => ∃ Q' : VK, te σ H Q' ∧ ∀ v H', Q' v H' → Q v H'
theorem pe_mon {X : Cx} {e : Expr} {te : TE} (h : PE X e te) : PE X e (mon te) := by
  constructor
  rintro pins s σ H Q I ⟨Q', h1, h2⟩
  refine thn (h.run pins s σ H Q' I h1) ?_
  rintro v s1 ⟨x, H1, I1, r1, q1⟩
  exact ⟨x, H1, I1, r1, h2 _ _ q1⟩
theorem pmk_made {X : Cx} {k : Nat} {x : Str} {C fI : Addr} {e : Expr} {te : TE} {p pos : Pos} (T : Ex X.K X.mg x C fI) (F : InitOk X.prog X.w X.K X.mg X.base k fI) (hr : Room (k + 1) X.A) (hx : Passes (L2.CX X.prog X.w) X (fun _ _ _ => False)) (hg : Gl X x) (he : PE X e te)
    (hdb : (x == ("__debug__" : Str)) = false := by decide) (hst : starEach (e :: []) X.env = (false, eval e X.env) :: starEach [] X.env := by rfl) (hpl : (backTo pos (starEach [] X.env)).any (·.1) = false := by rfl) :
    PMk X (.Call (.Name x p) [e] [] pos) (tMade C te) := by
  obtain ⟨fd, b, F1⟩ := F.ok
  refine PMk.imp (pmk_oex (ds := []) (dvs := []) T.o T.i F.ty F1 hr b .nil hx hg T.g (pa_cons (pe_mon he) pa_nil hst) hdb hst hpl) fun σ H Q h => ?_
  refine ⟨_, h, fun v H1 q => ⟨(by show 1 ≤ 1000; decide), fun a na => ⟨a, C, v, rfl, T.o, T.v, upd_same, fun dx nx ne => ?_⟩⟩⟩
  have n1 : H1 dx = none := by
    rw [upd_ne ne] at nx
    exact nx
  refine ⟨rfl, dx, [("value", v)], upd_same, ?_, n1, ?_⟩
  · rw [upd_ne ne, upd_same]
  · rw [upd_back na ne]
    exact q dx n1

/-! ### constants of the module -/
theorem pe_cst {X : Cx} {x : Str} {i : Int} {pos : Pos} (h : ∃ t, X.mg x = some (.int i t)) (hg : Gl X x := by rfl) (hd : (x == ("__debug__" : Str)) = false := by decide) : PE X (.Name x pos) (tC (.int i)) := by
  obtain ⟨t, e⟩ := h
  exact pe_glob hg e ⟨t, rfl⟩ hd
/-- the built-in names are still the built-in things -/
structure Nms (mg : Str → Option Value) : Prop where
  n_len : mg "len" = none
  n_int : mg "int" = none
  n_bool : mg "bool" = none
  n_str : mg "str" = none
  n_list : mg "list" = none
  n_tuple : mg "tuple" = none
  n_dict : mg "dict" = none
  n_range : mg "range" = none
  n_enumerate : mg "enumerate" = none
  n_isinstance : mg "isinstance" = none
  n_repr : mg "repr" = none
  n_ValueError : mg "ValueError" = none

/-- a built-in type as a value -/
theorem pe_ty {X : Cx} {x : Str} {pos : Pos} (n : String) (hm : X.mg x = none) (hg : Gl X x := by rfl) (hv : bootBuiltins x = some (.type n) := by decide +kernel) (hn : x ≠ "__name__" := by decide) (hd : (x == ("__debug__" : Str)) = false := by decide) : PE X (.Name x pos) (tC (.ty n)) :=
  pe_bltn hg hm hv rfl hn hd

/-! ### the tape: at t the five cells, at c the script's own copy -/
def TapeOk (H : Hp) (c : Addr) (T : List V) : Prop := ∃ (xs : List Int) (pos rest mix cnt : Int), T = [.ref c, .int pos, .int rest, .int mix, .int cnt] ∧ H c = some (.lst (xs.map V.int)) ∧ 0 ≤ pos ∧ 0 ≤ mix ∧ mix < 2147483648
def TapeAt (H : Hp) (t c : Addr) : Prop := ∃ T, H t = some (.lst T) ∧ TapeOk H c T
/-- all but t stands, t is a tape still -/
structure Go (t c : Addr) (H H' : Hp) : Prop where
  keep : ∀ b o, b ≠ t → H b = some o → H' b = some o
  tape : TapeAt H' t c
theorem tape_ne {H : Hp} {t c : Addr} {xs : List Int} {r : List V} (ht : H t = some (.lst (.ref c :: r))) (hc : H c = some (.lst (xs.map V.int))) : c ≠ t := fun e => by
  rw [e, ht] at hc
  cases xs with
  | nil => cases hc
  | cons x r => cases hc
theorem Go.trans {t c : Addr} {H H1 H2 : Hp} (a : Go t c H H1) (b : Go t c H1 H2) : Go t c H H2 := ⟨fun x o n e => b.keep x o n (a.keep x o n e), b.tape⟩
theorem Go.refl {t c : Addr} {H : Hp} (h : TapeAt H t c) : Go t c H H := ⟨fun _ _ _ e => e, h⟩
theorem TapeAt.there {H : Hp} {t c : Addr} (h : TapeAt H t c) {p : Addr} (n : H p = none) : p ≠ t ∧ p ≠ c := by
  obtain ⟨T, e1, xs, _, _, _, _, _, e2, _⟩ := h
  exact ⟨fun e => (by rw [e, e1] at n; cases n), fun e => (by rw [e, e2] at n; cases n)⟩
theorem TapeAt.keeps {H H' : Hp} {t c : Addr} (h : TapeAt H t c) (k : Same H H') : TapeAt H' t c := by
  obtain ⟨T, e1, xs, p, r, m, n, rfl, e2, h1, h2, h3⟩ := h
  exact ⟨_, k _ _ e1, xs, p, r, m, n, rfl, k _ _ e2, h1, h2, h3⟩
theorem Go.new {t c p : Addr} {H H' : Hp} {o : HO} (g : Go t c H H') (n : H' p = none) : Go t c H (upd H' p o) :=
  ⟨fun b u nb e => by rw [upd_ne (ne_of_none (g.keep b u nb e) n)]; exact g.keep b u nb e, g.tape.keeps (same_new n)⟩
/-- an object that came behind H is changed -/
theorem Go.mut {t c p : Addr} {H H' : Hp} {o : HO} (g : Go t c H H') (n : H p = none) (np : p ≠ t ∧ p ≠ c) : Go t c H (upd H' p o) := by
  refine ⟨fun b u nb e => ?_, ?_⟩
  · rw [upd_ne (ne_of_none e n)]
    exact g.keep b u nb e
  · obtain ⟨T, e1, ys, q, r, m, k, rfl, e2, h⟩ := g.tape
    exact ⟨_, by rw [upd_ne np.1.symm]; exact e1, ys, q, r, m, k, rfl, by rw [upd_ne np.2.symm]; exact e2, h⟩
theorem same_go {t c : Addr} {H0 H H' : Hp} (s : Same H0 H) (g : Go t c H H') (n : H0 t = none) : Same H0 H' := fun b o e => g.keep b o (fun z => by
  rw [z, n] at e
  cases e) (s b o e)
def spTape (K : PySem.W.Frag) : Sp := fun vs H Q _ => ∃ (a : Addr) (ns : List Int), vs = [.ref a] ∧ SqL K H a (ns.map V.int) ∧ ns.length ≤ 63 ∧ ∀ t c H', H t = none → Same H H' → TapeAt H' t c → Q (.ref t) H'
def spPick : Sp := fun vs H Q _ => ∃ (t c : Addr) (size : Int), vs = [.ref t, .int size] ∧ 0 < size ∧ size < 1073741824 ∧ TapeAt H t c ∧ ∀ d H', 0 ≤ d → d < size → Go t c H H' → Q (.int d) H'
def spSign : Sp := fun vs H Q _ => ∃ t c : Addr, vs = [.ref t] ∧ TapeAt H t c ∧ ∀ d H', 0 ≤ d → d < 100 → Go t c H H' → Q (.int d) H'
def Sgn (ns : List Int) : Prop := ∀ z ∈ ns, 0 ≤ z ∧ z < 100
def spSigns : Sp := fun vs H Q _ => ∃ (t c : Addr) (many : Int), vs = [.ref t, .int many] ∧ 0 ≤ many ∧ many ≤ 10000 ∧ TapeAt H t c ∧ ∀ p ns H', (ns.length : Int) = many → Sgn ns → H p = none → Go t c H H' → H' p = some (.lst (ns.map V.int)) → Q (.ref p) H'

/-! ### data: none, bools, ints, texts, lists, tuples, the empty dict -/
mutual
inductive Da (K : PySem.W.Frag) (H : Hp) : V → PyData → Prop
  | non : Da K H .non .none
  | bl (b : Bool) : Da K H (.bl b) (.bool b)
  | int (i : Int) : Da K H (.int i) (.int i)
  | str (x : Str) : Da K H (.str x) (.str x)
  | lst {a : Addr} {xs : List V} {ds : List PyData} : H a = some (.lst xs) → DaAll K H xs ds → Da K H (.ref a) (.list ds)
  | tup {a : Addr} {xs : List V} {ds : List PyData} : H a = some (.tup xs) → DaAll K H xs ds → Da K H (.ref a) (.tuple ds)
  | dic {a : Addr} : H a = some (.dK []) → Da K H (.ref a) (.dict [])
inductive DaAll (K : PySem.W.Frag) (H : Hp) : List V → List PyData → Prop
  | nil : DaAll K H [] []
  | cons {v : V} {vs : List V} {d : PyData} {ds : List PyData} : Da K H v d → DaAll K H vs ds → DaAll K H (v :: vs) (d :: ds)
end
mutual
theorem Da.keep {K : PySem.W.Frag} {H H' : Hp} (s : Same H H') : ∀ (d : PyData) (v : V), Da K H v d → Da K H' v d
  | .none, _, h => by cases h; exact .non
  | .bool _, _, h => by cases h; exact .bl _
  | .int _, _, h => by cases h; exact .int _
  | .str _, _, h => by cases h; exact .str _
  | .list ds, _, h => by
    cases h with
    | lst e a => exact .lst (s _ _ e) (DaAll.keep s ds _ a)
  | .tuple ds, _, h => by
    cases h with
    | tup e a => exact .tup (s _ _ e) (DaAll.keep s ds _ a)
  | .dict _, _, h => by
    cases h with
    | dic e => exact .dic (s _ _ e)
theorem DaAll.keep {K : PySem.W.Frag} {H H' : Hp} (s : Same H H') : ∀ (ds : List PyData) (vs : List V), DaAll K H vs ds → DaAll K H' vs ds
  | [], _, h => by cases h; exact .nil
  | d :: ds, _, h => by
    cases h with
    | cons a b => exact .cons (Da.keep s d _ a) (DaAll.keep s ds _ b)
end
theorem DaAll.ints {K : PySem.W.Frag} {H : Hp} : ∀ ns : List Int, DaAll K H (ns.map V.int) (ns.map PyData.int)
  | [] => .nil
  | n :: ns => .cons (.int n) (DaAll.ints ns)
theorem DaAll.get {K : PySem.W.Frag} {H : Hp} : ∀ {vs : List V} {ds : List PyData} {i : Nat} {v : V}, DaAll K H vs ds → vs[i]? = some v → ∃ d, ds[i]? = some d ∧ Da K H v d
  | _, _, _, _, .nil, e => by simp at e
  | _, _, 0, _, .cons h _, e => by simp at e; subst e; exact ⟨_, rfl, h⟩
  | _, _, i + 1, v, .cons _ t, e => by
    obtain ⟨d, h1, h2⟩ := DaAll.get (i := i) (v := v) t (by simpa using e)
    exact ⟨d, by simpa using h1, h2⟩
theorem DaAll.len {K : PySem.W.Frag} {H : Hp} : ∀ {vs : List V} {ds : List PyData}, DaAll K H vs ds → vs.length = ds.length
  | _, _, .nil => rfl
  | _, _, .cons _ t => by rw [List.length_cons, List.length_cons, DaAll.len t]
def tyD : PyData → String
  | .none => "NoneType" | .bool _ => "bool" | .int _ => "int" | .str _ => "str" | .list _ => "list" | .tuple _ => "tuple" | .dict _ => "dict"
theorem Da.ty {K : PySem.W.Frag} {H : Hp} {v : V} {d : PyData} (h : Da K H v d) : TyX K H v (.type (tyD d)) := by
  cases h with
  | non => exact .base .non
  | bl b => exact .base (.bl b)
  | int i => exact .base (.int i)
  | str x => exact .base (.str x)
  | lst e a => exact .base (.lst e)
  | tup e a => exact .base (.tup e)
  | dic e => exact .base (.dK e)
def dInt : PyData → Bool | .int _ => true | .bool _ => true | _ => false
def dBool : PyData → Bool | .bool _ => true | _ => false
def dStr : PyData → Bool | .str _ => true | _ => false
def dList : PyData → Bool | .list _ => true | _ => false
def dTuple : PyData → Bool | .tuple _ => true | _ => false
def dSeq : PyData → Bool | .list _ => true | .tuple _ => true | _ => false
theorem is_int {K : PySem.W.Frag} : ∀ d : PyData, PySem.W.kitOne K (.type (tyD d)) (.type "int") = some (dInt d)
  | .none => kit_ty (a := "NoneType") (b := "int") (r := false) (by decide +kernel)
  | .bool _ => kit_ty (a := "bool") (b := "int") (r := true) (by decide +kernel)
  | .int _ => kit_ty (a := "int") (b := "int") (r := true) (by decide +kernel)
  | .str _ => kit_ty (a := "str") (b := "int") (r := false) (by decide +kernel)
  | .list _ => kit_ty (a := "list") (b := "int") (r := false) (by decide +kernel)
  | .tuple _ => kit_ty (a := "tuple") (b := "int") (r := false) (by decide +kernel)
  | .dict _ => kit_ty (a := "dict") (b := "int") (r := false) (by decide +kernel)
theorem is_bool {K : PySem.W.Frag} : ∀ d : PyData, PySem.W.kitOne K (.type (tyD d)) (.type "bool") = some (dBool d)
  | .none => kit_ty (a := "NoneType") (b := "bool") (r := false) (by decide +kernel)
  | .bool _ => kit_ty (a := "bool") (b := "bool") (r := true) (by decide +kernel)
  | .int _ => kit_ty (a := "int") (b := "bool") (r := false) (by decide +kernel)
  | .str _ => kit_ty (a := "str") (b := "bool") (r := false) (by decide +kernel)
  | .list _ => kit_ty (a := "list") (b := "bool") (r := false) (by decide +kernel)
  | .tuple _ => kit_ty (a := "tuple") (b := "bool") (r := false) (by decide +kernel)
  | .dict _ => kit_ty (a := "dict") (b := "bool") (r := false) (by decide +kernel)
theorem is_str {K : PySem.W.Frag} : ∀ d : PyData, PySem.W.kitOne K (.type (tyD d)) (.type "str") = some (dStr d)
  | .none => kit_ty (a := "NoneType") (b := "str") (r := false) (by decide +kernel)
  | .bool _ => kit_ty (a := "bool") (b := "str") (r := false) (by decide +kernel)
  | .int _ => kit_ty (a := "int") (b := "str") (r := false) (by decide +kernel)
  | .str _ => kit_ty (a := "str") (b := "str") (r := true) (by decide +kernel)
  | .list _ => kit_ty (a := "list") (b := "str") (r := false) (by decide +kernel)
  | .tuple _ => kit_ty (a := "tuple") (b := "str") (r := false) (by decide +kernel)
  | .dict _ => kit_ty (a := "dict") (b := "str") (r := false) (by decide +kernel)
theorem is_list {K : PySem.W.Frag} : ∀ d : PyData, PySem.W.kitOne K (.type (tyD d)) (.type "list") = some (dList d)
  | .none => kit_ty (a := "NoneType") (b := "list") (r := false) (by decide +kernel)
  | .bool _ => kit_ty (a := "bool") (b := "list") (r := false) (by decide +kernel)
  | .int _ => kit_ty (a := "int") (b := "list") (r := false) (by decide +kernel)
  | .str _ => kit_ty (a := "str") (b := "list") (r := false) (by decide +kernel)
  | .list _ => kit_ty (a := "list") (b := "list") (r := true) (by decide +kernel)
  | .tuple _ => kit_ty (a := "tuple") (b := "list") (r := false) (by decide +kernel)
  | .dict _ => kit_ty (a := "dict") (b := "list") (r := false) (by decide +kernel)
theorem is_tuple {K : PySem.W.Frag} : ∀ d : PyData, PySem.W.kitOne K (.type (tyD d)) (.type "tuple") = some (dTuple d)
  | .none => kit_ty (a := "NoneType") (b := "tuple") (r := false) (by decide +kernel)
  | .bool _ => kit_ty (a := "bool") (b := "tuple") (r := false) (by decide +kernel)
  | .int _ => kit_ty (a := "int") (b := "tuple") (r := false) (by decide +kernel)
  | .str _ => kit_ty (a := "str") (b := "tuple") (r := false) (by decide +kernel)
  | .list _ => kit_ty (a := "list") (b := "tuple") (r := false) (by decide +kernel)
  | .tuple _ => kit_ty (a := "tuple") (b := "tuple") (r := true) (by decide +kernel)
  | .dict _ => kit_ty (a := "dict") (b := "tuple") (r := false) (by decide +kernel)
theorem is_seq {K : PySem.W.Frag} : ∀ d : PyData, PySem.W.kitAny K (.type (tyD d)) [.type "list", .type "tuple"] = some (dSeq d)
  | .none => kitAny_cons (is_list .none) (fun _ => kitAny_cons (is_tuple .none) (fun _ => kitAny_nil) (fun z => by cases z)) (fun z => by cases z)
  | .bool x => kitAny_cons (is_list (.bool x)) (fun _ => kitAny_cons (is_tuple (.bool x)) (fun _ => kitAny_nil) (fun z => by cases z)) (fun z => by cases z)
  | .int x => kitAny_cons (is_list (.int x)) (fun _ => kitAny_cons (is_tuple (.int x)) (fun _ => kitAny_nil) (fun z => by cases z)) (fun z => by cases z)
  | .str x => kitAny_cons (is_list (.str x)) (fun _ => kitAny_cons (is_tuple (.str x)) (fun _ => kitAny_nil) (fun z => by cases z)) (fun z => by cases z)
  | .list x => kitAny_cons (is_list (.list x)) (fun z => by cases z) (fun _ => rfl)
  | .tuple x => kitAny_cons (is_list (.tuple x)) (fun _ => kitAny_cons (is_tuple (.tuple x)) (fun z => by cases z) (fun _ => rfl)) (fun z => by cases z)
  | .dict x => kitAny_cons (is_list (.dict x)) (fun _ => kitAny_cons (is_tuple (.dict x)) (fun _ => kitAny_nil) (fun z => by cases z)) (fun z => by cases z)
/-- whole numbers, signs, forms, rows, things -/
def dWhole : PyData → Bool | .int _ => true | _ => false
def dSign : PyData → Bool | .int i => decide (0 ≤ i) && decide (i < 100) | _ => false
def dForm : PyData → Bool | .int i => decide (0 ≤ i) && decide (i < 5) | _ => false
def dItems : PyData → List PyData | .list ds => ds | .tuple ds => ds | _ => []
def dRow (d : PyData) : Bool := dSeq d && (dItems d).all dSign
def dThing (d : PyData) : Bool := dRow d && (decide (2 ≤ (dItems d).length) && (match dItems d with | x :: _ => dForm x | [] => false))
def spD (K : PySem.W.Frag) (f : PyData → Bool) : Sp := fun vs H Q _ => ∃ (v : V) (d : PyData), vs = [v] ∧ Da K H v d ∧ ∀ H', Same H H' → Q (.bl (f d)) H'

/-- a sequence of a known kind: a list (true), a tuple (false) -/
def SqB (K : PySem.W.Frag) (H : Hp) (a : Addr) (xs : List V) : Bool → Prop
  | true => SqL K H a xs
  | false => SqT K H a xs
theorem SqB.keep {K : PySem.W.Frag} {H H' : Hp} {a : Addr} {xs : List V} : ∀ {b : Bool}, SqB K H a xs b → Same H H' → SqB K H' a xs b
  | true, h, s => same_l s h
  | false, h, s => same_t s h
theorem Da.seq {K : PySem.W.Frag} {H : Hp} {v : V} {d : PyData} (h : Da K H v d) (e : dSeq d = true) : ∃ (a : Addr) (xs : List V) (b : Bool), v = .ref a ∧ DaAll K H xs (dItems d) ∧ SqB K H a xs b ∧ dList d = b ∧ dTuple d = !b := by
  cases h with
  | lst e1 a1 => exact ⟨_, _, true, rfl, a1, SqL.of e1, rfl, rfl⟩
  | tup e1 a1 => exact ⟨_, _, false, rfl, a1, SqT.of e1, rfl, rfl⟩
  | _ => cases e
theorem for_seq {K : PySem.W.Frag} {a : Addr} {xs : List V} {g : TG} {tb : TS} {D : Ends} {σ : L2.St} {H : Hp} (b : Bool) (Pv : Nat → L2.St → Hp → Prop) (h0 : Pv 0 σ H) (hl : ∀ i σ H, i ≤ xs.length → Pv i σ H → SqB K H a xs b)
    (hs : ∀ i x σ H, xs[i]? = some x → Pv i σ H → g x σ H fun σ2 H2 => tb { D with nx := Pv (i + 1), ct := Pv (i + 1), bk := D.nx } σ2 H2) (hd : ∀ σ H, Pv xs.length σ H → D.nx σ H) : tFor (iSeq K (tC (.ref a))) g tb D σ H := by
  cases b with
  | true => exact ⟨a, rfl, .inl ⟨⟨xs, hl 0 σ H (Nat.zero_le _) h0⟩, for_list Pv h0 hl hs hd⟩⟩
  | false => exact ⟨a, rfl, .inr ⟨⟨xs, hl 0 σ H (Nat.zero_le _) h0⟩, for_tup Pv h0 hl hs hd⟩⟩
theorem all_at {f : PyData → Bool} : ∀ {ds : List PyData}, (∀ (i : Nat) (d : PyData), ds[i]? = some d → f d = true) → ds.all f = true
  | [], _ => rfl
  | d :: ds, h => by
    rw [List.all_cons, h 0 d rfl, Bool.true_and]
    exact all_at fun i x e => h (i + 1) x e
theorem not_all {f : PyData → Bool} {ds : List PyData} {i : Nat} {d : PyData} (e : ds[i]? = some d) (h : f d = false) : ds.all f = false := by
  cases q : ds.all f with
  | false => rfl
  | true =>
    have z := List.all_eq_true.mp q d (List.mem_of_getElem? e)
    rw [h] at z
    cases z

/-! ### rows of signs, things -/
def toI : PyData → Int | .int i => i | _ => 0
def dInts (d : PyData) : List Int := (dItems d).map toI
theorem ints_of : ∀ {K : PySem.W.Frag} {H : Hp} {xs : List V} {ds : List PyData}, DaAll K H xs ds → ds.all dSign = true → xs = (ds.map toI).map V.int ∧ ds = (ds.map toI).map PyData.int ∧ Sgn (ds.map toI)
  | _, _, _, _, .nil, _ => ⟨rfl, rfl, fun _ h => nomatch h⟩
  | K, H, _, _, .cons (v := v) (d := d) (vs := vs) (ds := ds) hd ht, h => by
    rw [List.all_cons, Bool.and_eq_true] at h
    obtain ⟨e1, e2, e3⟩ := ints_of ht h.2
    cases d with
    | int i =>
      cases hd
      have hi : 0 ≤ i ∧ i < 100 := by
        have z : (decide (0 ≤ i) && decide (i < 100)) = true := h.1
        rw [Bool.and_eq_true, decide_eq_true_eq, decide_eq_true_eq] at z
        exact z
      refine ⟨by rw [List.map_cons, List.map_cons, ← e1]; rfl, by rw [List.map_cons, List.map_cons, ← e2]; rfl, fun z hz => ?_⟩
      rw [List.map_cons] at hz
      rcases List.mem_cons.mp hz with q | q
      · rw [q]
        exact hi
      · exact e3 z q
    | _ => cases h.1
theorem Da.row {K : PySem.W.Frag} {H : Hp} {v : V} {d : PyData} (h : Da K H v d) (e : dRow d = true) : ∃ (a : Addr) (b : Bool), v = .ref a ∧ SqB K H a ((dInts d).map V.int) b ∧ Sgn (dInts d) ∧ dItems d = (dInts d).map PyData.int ∧ dList d = b ∧ dTuple d = !b := by
  obtain ⟨e1, e2⟩ := Bool.and_eq_true_iff.mp e
  obtain ⟨a, xs, b, rfl, ha, hb, k1, k2⟩ := h.seq e1
  obtain ⟨z1, z2, z3⟩ := ints_of ha e2
  exact ⟨a, b, rfl, by rw [z1] at hb; exact hb, z3, z2, k1, k2⟩
theorem dInts_len (d : PyData) : (dInts d).length = (dItems d).length := List.length_map ..
/-- form, number, signs behind -/
theorem thing_parts {d : PyData} (e : dThing d = true) : dRow d = true ∧ ∃ (f n : Int) (r : List Int), dInts d = f :: n :: r ∧ 0 ≤ f ∧ f < 5 := by
  obtain ⟨e1, e2⟩ := Bool.and_eq_true_iff.mp e
  obtain ⟨e3, e4⟩ := Bool.and_eq_true_iff.mp e2
  have hl := of_decide_eq_true e3
  refine ⟨e1, ?_⟩
  cases hd : dItems d with
  | nil => rw [hd] at hl; cases hl
  | cons x xr =>
    rw [hd] at hl e4
    cases xr with
    | nil => exact absurd (show 2 ≤ 1 from hl) (by decide)
    | cons y r =>
      cases x with
      | int i =>
        have z : (decide (0 ≤ i) && decide (i < 5)) = true := e4
        rw [Bool.and_eq_true, decide_eq_true_eq, decide_eq_true_eq] at z
        exact ⟨i, toI y, r.map toI, by unfold dInts; rw [hd]; rfl, z.1, z.2⟩
      | _ => cases e4
def dFst (d : PyData) : Int := (dInts d).getD 0 0
def dSnd (d : PyData) : Int := (dInts d).getD 1 0
def shiftI (by_ : Int) (ns : List Int) : List Int := ns.map fun z => (z + by_) % 100
def dBody (d : PyData) : List Int := shiftI (-20 * dFst d) ((dInts d).drop 2)
def spShifted (K : PySem.W.Frag) : Sp := fun vs H Q _ => ∃ (a : Addr) (ns : List Int) (b : Bool) (by_ : Int), vs = [.ref a, .int by_] ∧ SqB K H a (ns.map V.int) b ∧ ns.length ≤ 1000000 ∧ ∀ p H', Same H H' → H' p = some (.tup ((shiftI by_ ns).map V.int)) → Q (.ref p) H'
/-- the error of the class at C with the value v leaves -/
def Out (E : XK) (H : Hp) (C : Addr) (v : V) : Prop := ∀ dd H', Same H H' → H' dd = some (.xd [(("value" : Str), v)]) → E (.ref C) (some dd) H'
theorem Out.new {E : XK} {H H1 : Hp} {C : Addr} {v : V} (o : Out E H C v) (s : Same H H1) {d : Addr} (n : H1 d = none) : E (.ref C) (some d) (upd H1 d (.xd [(("value" : Str), v)])) := o d _ (s.trans (same_new n)) upd_same
@[irreducible] def spThing1 (K : PySem.W.Frag) (C : Addr) (f : PyData → Int) : Sp := fun vs H Q E => ∃ (v : V) (d : PyData), vs = [v] ∧ Da K H v d ∧ (dThing d = true → ∀ H', Same H H' → Q (.int (f d)) H') ∧ (dThing d = false → Out E H C v)
@[irreducible] def spBodyOf (K : PySem.W.Frag) (C : Addr) : Sp := fun vs H Q E => ∃ (v : V) (d : PyData), vs = [v] ∧ Da K H v d ∧ (dItems d).length ≤ 1000000 ∧ (dThing d = true → ∀ p H', Same H H' → H' p = some (.tup ((dBody d).map V.int)) → Q (.ref p) H') ∧ (dThing d = false → Out E H C v)
@[irreducible] def spThingOf (K : PySem.W.Frag) (CF CS CR : Addr) : Sp := fun vs H Q E => ∃ (v1 v2 v3 : V) (d1 d2 d3 : PyData), vs = [v1, v2, v3] ∧ Da K H v1 d1 ∧ Da K H v2 d2 ∧ Da K H v3 d3 ∧ (dItems d3).length ≤ 1000000 ∧
  (dForm d1 = true → dSign d2 = true → dRow d3 = true → ∀ p H', Same H H' → H' p = some (.tup ((toI d1 :: toI d2 :: shiftI (20 * toI d1) (dInts d3)).map V.int)) → Q (.ref p) H') ∧
  (dForm d1 = false → Out E H CF v1) ∧ (dForm d1 = true → dSign d2 = false → Out E H CS v2) ∧ (dForm d1 = true → dSign d2 = true → dRow d3 = false → Out E H CR v3)
theorem spThing1_of {K : PySem.W.Frag} {C : Addr} {f : PyData → Int} {H : Hp} {Q : VK} {E : XK} {v : V} {d : PyData} (h : Da K H v d) (q : dThing d = true → ∀ H', Same H H' → Q (.int (f d)) H') (qe : dThing d = false → Out E H C v) : spThing1 K C f [v] H Q E := by
  unfold spThing1
  exact ⟨v, d, rfl, h, q, qe⟩
theorem spBodyOf_of {K : PySem.W.Frag} {C : Addr} {H : Hp} {Q : VK} {E : XK} {v : V} {d : PyData} (h : Da K H v d) (hl : (dItems d).length ≤ 1000000) (q : dThing d = true → ∀ p H', Same H H' → H' p = some (.tup ((dBody d).map V.int)) → Q (.ref p) H') (qe : dThing d = false → Out E H C v) : spBodyOf K C [v] H Q E := by
  unfold spBodyOf
  exact ⟨v, d, rfl, h, hl, q, qe⟩
theorem spThingOf_of {K : PySem.W.Frag} {CF CS CR : Addr} {H : Hp} {Q : VK} {E : XK} {v1 v2 v3 : V} {d1 d2 d3 : PyData} (h1 : Da K H v1 d1) (h2 : Da K H v2 d2) (h3 : Da K H v3 d3) (hl : (dItems d3).length ≤ 1000000)
    (q : dForm d1 = true → dSign d2 = true → dRow d3 = true → ∀ p H', Same H H' → H' p = some (.tup ((toI d1 :: toI d2 :: shiftI (20 * toI d1) (dInts d3)).map V.int)) → Q (.ref p) H')
    (qf : dForm d1 = false → Out E H CF v1) (qs : dForm d1 = true → dSign d2 = false → Out E H CS v2) (qr : dForm d1 = true → dSign d2 = true → dRow d3 = false → Out E H CR v3) : spThingOf K CF CS CR [v1, v2, v3] H Q E := by
  unfold spThingOf
  exact ⟨v1, v2, v3, d1, d2, d3, rfl, h1, h2, h3, hl, q, qf, qs, qr⟩
theorem lc_seq {K : PySem.W.Frag} {a : Addr} {xs : List V} {tl : TE} {j : Nat} {te : TE} {vs : List Nat} {σ : L2.St} {H1 : Hp} {Q : VK} (htl : ∀ R : VK, R (.ref a) H1 → tl σ H1 R) (b : Bool) (h1 : SqB K H1 a xs b) (hw : ∀ x, wipe ((wipe σ vs).set j (some x)) vs = wipe σ vs)
    (step : ∀ D, H1 D = none → ∃ Pv : Nat → Hp → Prop, Pv 0 (upd H1 D (.lst [])) ∧ (∀ i H, i ≤ xs.length → Pv i H → SqB K H a xs b) ∧
      (∀ i x H, xs[i]? = some x → Pv i H → te ((wipe σ vs).set j (some x)) H fun y H4 => ∃ acc, H4 D = some (.lst acc) ∧ acc.length < sizeLine ∧ Pv (i + 1) (upd H4 D (.lst (acc ++ [y])))) ∧
      ∀ H, Pv xs.length H → Q (.ref D) H) : tLc (iSeq K tl) (gName j) tYes te vs σ H1 Q := by
  refine htl _ ?_
  cases b with
  | true =>
    refine ⟨a, rfl, .inl ⟨⟨xs, h1⟩, fun D hD => ?_⟩⟩
    obtain ⟨Pv, p0, pl, ps, pd⟩ := step D hD
    exact lc_list Pv p0 pl (fun i x H hx hp => ⟨hw x, ps i x H hx hp⟩) pd
  | false =>
    refine ⟨a, rfl, .inr ⟨⟨xs, h1⟩, fun D hD => ?_⟩⟩
    obtain ⟨Pv, p0, pl, ps, pd⟩ := step D hD
    exact lc_tup Pv p0 pl (fun i x H hx hp => ⟨hw x, ps i x H hx hp⟩) pd
theorem st_ret1 {te : TE} {D : Ends} {σ : L2.St} {H : Hp} (h : te σ H D.rt) : tRet te D σ H := h
theorem st_set1 {te : TE} {i : Nat} {D : Ends} {σ : L2.St} {H : Hp} (h : te σ H fun v H1 => D.nx (σ.set i (some v)) H1) : tAsg te (gName i) D σ H := h
theorem st_seq1 {t u : TS} {D : Ends} {σ : L2.St} {H : Hp} (h : t { D with nx := u D } σ H) : tSeq t u D σ H := h
theorem cb1 {r : List V → Hp → VK → Prop} {ta : TE} {σ : L2.St} {H : Hp} {Q : VK} (h : ta σ H fun x H1 => r [x] H1 Q) : tCB r (tCons ta tNil) σ H Q := h
theorem go_var {i : Nat} {v : V} {σ : L2.St} {H : Hp} (e : σ[i]? = some (some v)) (R : VK) (h : R v H) : tVar i σ H R := ⟨v, e, h⟩
/-- a slice of a list or of a tuple -/
theorem sl_any {X : Cx} : SlR X (fun x lo hi H Q => rSlL X.K x lo hi H Q ∨ rSlA X.K x lo hi H Q) := sl_list.or sl_tupA

/-! ### tuples of ints: ==, != -/
theorem dp_ints {K : PySem.W.Frag} {H : Hp} : ∀ ns : List Int, DpAll K H (ns.map V.int) (ns.map PyData.int)
  | [] => .nil
  | n :: ns => .cons (.int n) (dp_ints ns)
theorem lay_ints : ∀ ns : List Int, PyData.canLayAll0 (ns.map PyData.int) = true
  | [] => rfl
  | n :: ns => by
    show (PyData.canLay0 (.int n) && PyData.canLayAll0 (ns.map PyData.int)) = true
    rw [lay_ints ns]
    rfl
theorem depth_ints : ∀ ns : List Int, PyData.depthAll (ns.map PyData.int) = 0
  | [] => rfl
  | n :: ns => by
    show max (PyData.depth (.int n)) (PyData.depthAll (ns.map PyData.int)) = 0
    rw [depth_ints ns]
    rfl
theorem shaped_tup (ns : List Int) : SeqAt.shaped (.tuple (ns.map PyData.int)) = true := by
  show (PyData.canLayAll0 (ns.map PyData.int) && decide (PyData.depthAll (ns.map PyData.int) + 1 ≤ 64)) = true
  rw [lay_ints, depth_ints]
  rfl
theorem eqv_ints : ∀ ms ns : List Int, PyData.eqvAll (ms.map PyData.int) (ns.map PyData.int) = decide (ms = ns)
  | [], [] => rfl
  | [], _ :: _ => rfl
  | _ :: _, [] => rfl
  | m :: ms, n :: ns => by
    show ((m == n) && PyData.eqvAll (ms.map PyData.int) (ns.map PyData.int)) = _
    rw [eqv_ints ms ns, Bool.eq_iff_iff]
    simp
def rEqT (K : PySem.W.Frag) : R2 := fun x y H Q => ∃ (a b : Addr) (ms ns : List Int), x = .ref a ∧ y = .ref b ∧ SqT K H a (ms.map V.int) ∧ SqT K H b (ns.map V.int) ∧ Q (.bl (decide (ms = ns))) H
def rNeT (K : PySem.W.Frag) : R2 := fun x y H Q => ∃ (a b : Addr) (ms ns : List Int), x = .ref a ∧ y = .ref b ∧ SqT K H a (ms.map V.int) ∧ SqT K H b (ns.map V.int) ∧ Q (.bl (!decide (ms = ns))) H
theorem op_eqT {X : Cx} (hu : X.A.units + 64 < cLine) : OpR X (compareOp .Eq) (rEqT X.K) := by
  rintro pins s σ H x y v u Q I rx ry ⟨a, b, ms, ns, rfl, rfl, h1, h2, q⟩
  refine op_eqD hu pins s σ H _ _ v u Q I rx ry ⟨.tuple (ms.map PyData.int), .tuple (ns.map PyData.int), .tup h1 (dp_ints ms), .tup h2 (dp_ints ns), shaped_tup ms, shaped_tup ns, ?_⟩
  have e : PyData.eqv (.tuple (ms.map PyData.int)) (.tuple (ns.map PyData.int)) = decide (ms = ns) := eqv_ints ms ns
  rw [e]
  exact q
theorem op_neT {X : Cx} (hu : X.A.units + 64 < cLine) : OpR X (compareOp .NotEq) (rNeT X.K) := by
  rintro pins s σ H x y v u Q I rx ry ⟨a, b, ms, ns, rfl, rfl, h1, h2, q⟩
  refine op_neD hu pins s σ H _ _ v u Q I rx ry ⟨.tuple (ms.map PyData.int), .tuple (ns.map PyData.int), .tup h1 (dp_ints ms), .tup h2 (dp_ints ns), shaped_tup ms, shaped_tup ns, ?_⟩
  have e : PyData.eqv (.tuple (ms.map PyData.int)) (.tuple (ns.map PyData.int)) = decide (ms = ns) := eqv_ints ms ns
  rw [e]
  exact q

/-! ### things that are known -/
theorem Sgn.cons {z : Int} {ns : List Int} (h0 : 0 ≤ z) (h1 : z < 100) (h : Sgn ns) : Sgn (z :: ns) := fun y hy => by
  rcases List.mem_cons.mp hy with e | e
  · rw [e]
    exact ⟨h0, h1⟩
  · exact h y e
theorem Sgn.shift (b : Int) (ns : List Int) : Sgn (shiftI b ns) := fun z hz => by
  obtain ⟨y, _, rfl⟩ := List.mem_map.mp hz
  omega
theorem shift_back {f : Int} {ns : List Int} (h : Sgn ns) : shiftI (-20 * f) (shiftI (20 * f) ns) = ns := by
  unfold shiftI
  rw [List.map_map]
  have e : ∀ z ∈ ns, ((fun z => (z + -20 * f) % 100) ∘ fun z => (z + 20 * f) % 100) z = id z := fun z hz => by
    have q := h z hz
    show ((z + 20 * f) % 100 + -20 * f) % 100 = z
    omega
  rw [List.map_congr_left e, List.map_id]
theorem shift_len (b : Int) (ns : List Int) : (shiftI b ns).length = ns.length := List.length_map ..
theorem toI_ints (ns : List Int) : (ns.map PyData.int).map toI = ns := by
  rw [List.map_map]
  have e : ∀ z ∈ ns, (toI ∘ PyData.int) z = id z := fun z _ => rfl
  rw [List.map_congr_left e, List.map_id]
theorem dInts_tup (ns : List Int) : dInts (.tuple (ns.map PyData.int)) = ns := toI_ints ns
theorem dInts_lst (ns : List Int) : dInts (.list (ns.map PyData.int)) = ns := toI_ints ns
theorem dSign_of {z : Int} (h0 : 0 ≤ z) (h1 : z < 100) : dSign (.int z) = true := by
  show (decide (0 ≤ z) && decide (z < 100)) = true
  rw [decide_eq_true h0, decide_eq_true h1]
  rfl
theorem dForm_of {z : Int} (h0 : 0 ≤ z) (h1 : z < 5) : dForm (.int z) = true := by
  show (decide (0 ≤ z) && decide (z < 5)) = true
  rw [decide_eq_true h0, decide_eq_true h1]
  rfl
theorem all_sign {ns : List Int} (h : Sgn ns) : (ns.map PyData.int).all dSign = true := by
  rw [List.all_map, List.all_eq_true]
  intro z hz
  exact dSign_of (h z hz).1 (h z hz).2
theorem dRow_tup {ns : List Int} (h : Sgn ns) : dRow (.tuple (ns.map PyData.int)) = true := all_sign h
theorem dRow_lst {ns : List Int} (h : Sgn ns) : dRow (.list (ns.map PyData.int)) = true := all_sign h
/-- a thing's ints -/
def thg (f n : Int) (bs : List Int) : List Int := f :: n :: shiftI (20 * f) bs
theorem thg_sgn {f n : Int} {bs : List Int} (f0 : 0 ≤ f) (f1 : f < 5) (n0 : 0 ≤ n) (n1 : n < 100) : Sgn (thg f n bs) := .cons f0 (by omega) (.cons n0 n1 (.shift _ _))
theorem dThing_thg {f n : Int} {bs : List Int} (f0 : 0 ≤ f) (f1 : f < 5) (n0 : 0 ≤ n) (n1 : n < 100) : dThing (.tuple ((thg f n bs).map PyData.int)) = true := by
  unfold dThing
  rw [dRow_tup (thg_sgn f0 f1 n0 n1), Bool.true_and]
  show (decide (2 ≤ ((shiftI (20 * f) bs).map PyData.int).length + 1 + 1) && dForm (.int f)) = true
  rw [dForm_of f0 f1, decide_eq_true (by omega)]
  rfl
theorem thg_len (f n : Int) (bs : List Int) : (thg f n bs).length = bs.length + 2 := by
  show (shiftI (20 * f) bs).length + 2 = _
  rw [shift_len]
theorem thg_ecut (f n : Int) (bs : List Int) : cutV ((thg f n bs).map V.int) (some 2) none = (shiftI (20 * f) bs).map V.int := by
  unfold cutV
  rw [show HT.sIx ((thg f n bs).map V.int).length 0 (some 2) = min 2 ((thg f n bs).map V.int).length from HT.sIx_nat _ 0 2, HT.sIx_none, List.length_map, thg_len, show min 2 (bs.length + 2) = 2 by omega]
  show List.take _ ((shiftI (20 * f) bs).map V.int) = _
  apply List.take_of_length_le
  rw [List.length_map, shift_len]
  omega
theorem thg_ncut (f n : Int) (bs : List Int) : ¬ (HT.sIx ((thg f n bs).map V.int).length 0 (some 2) = 0 ∧ HT.sIx ((thg f n bs).map V.int).length ((thg f n bs).map V.int).length none = ((thg f n bs).map V.int).length) := fun z => by
  have z1 := z.1
  rw [show HT.sIx ((thg f n bs).map V.int).length 0 (some 2) = min 2 ((thg f n bs).map V.int).length from HT.sIx_nat _ 0 2, List.length_map, thg_len] at z1
  omega
theorem thg_inj {f n g m : Int} {bs cs : List Int} (h : thg f n bs = thg g m cs) : f = g ∧ n = m := by
  injection h with h1 h2
  injection h2 with h3 _
  exact ⟨h1, h3⟩
section
variable {K : PySem.W.Frag} {H : Hp} {Q : VK} {E : XK} {C CF CS CR p : Addr} {f n : Int} {bs : List Int}
theorem da_thg (h : H p = some (.tup ((thg f n bs).map V.int))) : Da K H (.ref p) (.tuple ((thg f n bs).map PyData.int)) := .tup h (.ints _)
theorem is_thing_ok (f0 : 0 ≤ f) (f1 : f < 5) (n0 : 0 ≤ n) (n1 : n < 100) (h : H p = some (.tup ((thg f n bs).map V.int))) (q : ∀ H', Same H H' → Q (.bl true) H') : spD K dThing [.ref p] H Q E :=
  ⟨_, _, rfl, da_thg h, fun H' s => by rw [dThing_thg f0 f1 n0 n1]; exact q H' s⟩
theorem form_ok (f0 : 0 ≤ f) (f1 : f < 5) (n0 : 0 ≤ n) (n1 : n < 100) (h : H p = some (.tup ((thg f n bs).map V.int))) (q : ∀ H', Same H H' → Q (.int f) H') : spThing1 K C dFst [.ref p] H Q E :=
  spThing1_of (da_thg h) (fun _ H' s => by
    have e : dFst (.tuple ((thg f n bs).map PyData.int)) = f := by unfold dFst; rw [dInts_tup]; rfl
    rw [e]
    exact q H' s) fun z => by (rw [dThing_thg f0 f1 n0 n1] at z; cases z)
theorem number_ok (f0 : 0 ≤ f) (f1 : f < 5) (n0 : 0 ≤ n) (n1 : n < 100) (h : H p = some (.tup ((thg f n bs).map V.int))) (q : ∀ H', Same H H' → Q (.int n) H') : spThing1 K C dSnd [.ref p] H Q E :=
  spThing1_of (da_thg h) (fun _ H' s => by
    have e : dSnd (.tuple ((thg f n bs).map PyData.int)) = n := by unfold dSnd; rw [dInts_tup]; rfl
    rw [e]
    exact q H' s) fun z => by (rw [dThing_thg f0 f1 n0 n1] at z; cases z)
theorem body_ok (f0 : 0 ≤ f) (f1 : f < 5) (n0 : 0 ≤ n) (n1 : n < 100) (hs : Sgn bs) (hl : bs.length ≤ 999000) (h : H p = some (.tup ((thg f n bs).map V.int))) (q : ∀ p' H', Same H H' → H' p' = some (.tup (bs.map V.int)) → Q (.ref p') H') : spBodyOf K C [.ref p] H Q E :=
  spBodyOf_of (da_thg h) (by
    show ((thg f n bs).map PyData.int).length ≤ _
    rw [List.length_map, thg_len]
    omega) (fun _ p' H' s e => by
    have eb : dBody (.tuple ((thg f n bs).map PyData.int)) = bs := by
      unfold dBody dFst
      rw [dInts_tup]
      show shiftI (-20 * f) (shiftI (20 * f) bs) = bs
      exact shift_back hs
    rw [eb] at e
    exact q p' H' s e) fun z => by (rw [dThing_thg f0 f1 n0 n1] at z; cases z)
theorem thing_ok (f0 : 0 ≤ f) (f1 : f < 5) (n0 : 0 ≤ n) (n1 : n < 100) (hs : Sgn bs) (hl : bs.length ≤ 1000000) (h : H p = some (.tup (bs.map V.int))) (q : ∀ p' H', Same H H' → H' p' = some (.tup ((thg f n bs).map V.int)) → Q (.ref p') H') :
    spThingOf K CF CS CR [.int f, .int n, .ref p] H Q E :=
  spThingOf_of (d3 := .tuple (bs.map PyData.int)) (.int f) (.int n) (.tup h (.ints bs)) (by
    show (bs.map PyData.int).length ≤ _
    rw [List.length_map]
    exact hl) (fun _ _ _ p' H' s e => by
    rw [dInts_tup] at e
    exact q p' H' s e) (fun z => by (rw [dForm_of f0 f1] at z; cases z)) (fun _ z => by (rw [dSign_of n0 n1] at z; cases z)) fun _ _ z => by (rw [dRow_tup hs] at z; cases z)
end

theorem TapeAt.mut {H : Hp} {t c p : Addr} {o : HO} (h : TapeAt H t c) (n : p ≠ t ∧ p ≠ c) : TapeAt (upd H p o) t c := by
  obtain ⟨T, e1, ys, q, r, m, k, rfl, e2, h⟩ := h
  exact ⟨_, by rw [upd_ne n.1.symm]; exact e1, ys, q, r, m, k, rfl, by rw [upd_ne n.2.symm]; exact e2, h⟩
theorem TapeAt.tup_ne {H : Hp} {t c p : Addr} {xs : List V} (h : TapeAt H t c) (e : H p = some (.tup xs)) : p ≠ t := fun z => by
  obtain ⟨T, e1, _⟩ := h
  rw [z, e1] at e
  cases e
theorem rep_len {α : Type} (xs : List α) : ∀ k : Nat, (List.replicate k xs).flatten.length = k * xs.length
  | 0 => by simp
  | k + 1 => by
    rw [List.replicate_succ, List.flatten_cons, List.length_append, rep_len xs k, Nat.succ_mul, Nat.add_comm]
theorem erase_map {α β : Type} (f : α → β) : ∀ (l : List α) (k : Nat), (l.map f).eraseIdx k = (l.eraseIdx k).map f
  | [], _ => rfl
  | _ :: _, 0 => rfl
  | x :: l, k + 1 => by
    show f x :: (l.map f).eraseIdx k = f x :: (l.eraseIdx k).map f
    rw [erase_map f l k]
theorem erase_perm {α : Type} : ∀ {l : List α} {k : Nat} {x : α}, l[k]? = some x → (x :: l.eraseIdx k).Perm l
  | [], k, x, h => by simp at h
  | a :: l, 0, x, h => by
    have e : a = x := Option.some.inj h
    rw [e]
    exact .refl _
  | a :: l, k + 1, x, h => by
    have ih := erase_perm (l := l) (k := k) (x := x) h
    show (x :: a :: l.eraseIdx k).Perm (a :: l)
    exact (List.Perm.swap a x _).trans (ih.cons a)
end Fd

set_option maxRecDepth 100000
set_option maxHeartbeats 2000000
namespace Fd
open PySem PySem.Spec PyProof.Rows L2

/-! ### data as it lies in the real heap, and what repr writes of it -/
section
variable {P : Program} {w : World} {K : PySem.W.Frag} {H : Hp} {h : Heap}
theorem dict0_at (hok : HOk P w H h) {a : Addr} (e : H a = some (.dK [])) : (a == sysModules) = false ∧ ∃ o es n, h.get? a = some o ∧ o.cls = .type "dict" ∧ o.data = .dict es n ∧ es.toList = [] := by
  have z : ObjOk P w H h a (.dK []) := hok a _ e
  obtain ⟨_, ns, vs, kv, o, es, n, g, ed, dd, ko, pr, nd⟩ := z
  have e0 : vs = [] := by
    cases kv
    rfl
  subst e0
  refine ⟨ns, o, es, n, g, ed.1, dd, ?_⟩
  generalize es.toList = l at pr
  cases pr
  rfl
mutual
theorem Da.reads (hok : HOk P w H h) : ∀ (d : PyData) (v : V) (u : Value), Da K H v d → RelV v u → ∃ as, Reads h u d as
  | .none, _, u, x, r => by
    cases x
    obtain rfl : u = Value.none := r
    exact ⟨_, .none⟩
  | .bool _, _, u, x, r => by
    cases x
    obtain rfl : u = Value.bool _ := r
    exact ⟨_, .bool _⟩
  | .int _, _, u, x, r => by
    cases x
    obtain ⟨t, rfl⟩ : ∃ t, u = Value.int _ t := r
    exact ⟨_, .int _ _⟩
  | .str _, _, u, x, r => by
    cases x
    obtain ⟨t, rfl⟩ : ∃ t, u = Value.str _ t := r
    exact ⟨_, .str _ _⟩
  | .list ds, _, u, x, r => by
    cases x with
    | @lst a xs _ e l =>
      obtain rfl : u = Value.ref a := r
      have z : ObjOk P w H h a (.lst xs) := hok a _ e
      obtain ⟨_, its, n, rv, g⟩ := z
      obtain ⟨as, q⟩ := DaAll.reads hok ds xs its l rv
      exact ⟨_, .list g rfl rfl q⟩
  | .tuple ds, _, u, x, r => by
    cases x with
    | @tup a xs _ e l =>
      obtain rfl : u = Value.ref a := r
      have z : ObjOk P w H h a (.tup xs) := hok a _ e
      obtain ⟨_, its, rv, o, g, c, n, dd⟩ := z
      obtain ⟨as, q⟩ := DaAll.reads hok ds xs its l rv
      exact ⟨_, .tuple g c dd q⟩
  | .dict ds, _, u, x, r => by
    cases x with
    | @dic a e =>
      obtain rfl : u = Value.ref a := r
      obtain ⟨_, o, es, n, g, c, dd, el⟩ := dict0_at hok e
      refine ⟨_, .dict g c dd (as := []) (bs := []) ?_ ?_⟩ <;> (rw [el]; exact .nil)
theorem DaAll.reads (hok : HOk P w H h) : ∀ (ds : List PyData) (vs : List V) (us : List Value), DaAll K H vs ds → Vals vs us → ∃ as, ReadsAll h us ds as
  | [], _, us, x, r => by
    cases x
    cases r
    exact ⟨_, .nil⟩
  | d :: ds, _, us, x, r => by
    cases x with
    | cons x1 x2 =>
      cases r with
      | cons r1 r2 =>
        obtain ⟨as, q⟩ := Da.reads hok d _ _ x1 r1
        obtain ⟨bs, q2⟩ := DaAll.reads hok ds _ _ x2 r2
        exact ⟨_, .cons q q2⟩
end
theorem most_cons {a : Addr} {d : PyData} {as bs : List Addr} {n : Nat} (r : Reads h (.ref a) d as) (hn : d.depth = n + 1) (hb : ReadAtMost h n bs) : ReadAtMost h d.depth (a :: bs) ∧ a ∉ bs :=
  ⟨ReadAtMost.cons r (by omega) hb, not_mem_of_deeper r (by omega) hb⟩
mutual
theorem Da.repr (hok : HOk P w H h) : ∀ (d : PyData) (v : V) (u : Value), Da K H v d → RelV v u → d.showable = true → d.shown.length ≤ sizeLine → ∃ bs, ReadAtMost h d.depth bs ∧ ReprK P w bs h d.depth u d.shown
  | .none, _, u, x, r, _, _ => by
    cases x
    obtain rfl : u = Value.none := r
    refine ⟨[], nofun, ?_⟩
    rw [PyData.shown]
    exact .of_is .none _ _ _
  | .bool b, _, u, x, r, _, _ => by
    cases x
    obtain rfl : u = Value.bool _ := r
    refine ⟨[], nofun, ?_⟩
    rw [PyData.shown]
    exact .of_is (.bool b) _ _ _
  | .int i, _, u, x, r, hs, _ => by
    cases x
    obtain ⟨t, rfl⟩ : ∃ t, u = Value.int _ t := r
    refine ⟨[], nofun, ?_⟩
    rw [PyData.shown]
    exact .of_is (.int t (by simpa [PyData.showable] using hs)) _ _ _
  | .str y, _, u, x, r, _, hz => by
    cases x
    obtain ⟨t, rfl⟩ : ∃ t, u = Value.str _ t := r
    refine ⟨[], nofun, ?_⟩
    rw [PyData.shown] at hz ⊢
    exact .of_is (.str y t hz) _ _ _
  | .list ds, v, u, x, r, hs, hz => by
    obtain ⟨as, rd⟩ := Da.reads hok _ v u x r
    cases x with
    | @lst a xs _ e l =>
      obtain rfl : u = Value.ref a := r
      have z : ObjOk P w H h a (.lst xs) := hok a _ e
      obtain ⟨_, its, n, rv, g⟩ := z
      rw [PyData.shown] at hz
      obtain ⟨bs, hb, hk⟩ := DaAll.repr hok ds xs its l rv (by simpa [PyData.showable] using hs) fun t ht => Nat.le_trans (listText_mem_le ht) hz
      have m := most_cons rd (n := PyData.depthAll ds) (by simp only [PyData.depth]) hb
      refine ⟨a :: bs, m.1, ?_⟩
      rw [PyData.shown, PyData.depth]
      cases its with
      | nil =>
        have e0 : ds = [] := by
          have z1 := l.len
          have z2 := Vals.length rv
          exact List.eq_nil_of_length_eq_zero (by rw [← z1, z2]; rfl)
        subst e0
        rw [PyData.shownAll, listText_nil]
        exact ReprK.listEmpty g rfl rfl
      | cons y its => exact ReprK.list g rfl rfl m.2 (by rw [hk.length_eq]; simp) fun i t e => hk.item i t (by simpa using e)
  | .tuple ds, v, u, x, r, hs, hz => by
    obtain ⟨as, rd⟩ := Da.reads hok _ v u x r
    cases x with
    | @tup a xs _ e l =>
      obtain rfl : u = Value.ref a := r
      have z : ObjOk P w H h a (.tup xs) := hok a _ e
      obtain ⟨_, its, rv, o, g, c, n, dd⟩ := z
      rw [PyData.shown] at hz
      obtain ⟨bs, hb, hk⟩ := DaAll.repr hok ds xs its l rv (by simpa [PyData.showable] using hs) fun t ht => Nat.le_trans (tupleText_mem_le ht) hz
      have m := most_cons rd (n := PyData.depthAll ds) (by simp only [PyData.depth]) hb
      refine ⟨a :: bs, m.1, ?_⟩
      rw [PyData.shown, PyData.depth]
      exact ReprK.tuple g c dd m.2 hk
  | .dict ds, v, u, x, r, hs, hz => by
    obtain ⟨as, rd⟩ := Da.reads hok _ v u x r
    cases x with
    | @dic a e =>
      obtain rfl : u = Value.ref a := r
      obtain ⟨ns, o, es, n, g, c, dd, el⟩ := dict0_at hok e
      have m := most_cons rd (n := PyData.depthKv []) (bs := []) (by simp only [PyData.depth]) nofun
      refine ⟨[a], m.1, ?_⟩
      rw [PyData.shown, PyData.depth]
      exact ReprK.dict g c dd ns m.2 (by rw [el]; exact .nil)
theorem DaAll.repr (hok : HOk P w H h) : ∀ (ds : List PyData) (vs : List V) (us : List Value), DaAll K H vs ds → Vals vs us → PyData.showableAll ds = true → (∀ t ∈ PyData.shownAll ds, t.length ≤ sizeLine) →
    ∃ bs, ReadAtMost h (PyData.depthAll ds) bs ∧ ReprAllK P w bs h (PyData.depthAll ds) us (PyData.shownAll ds)
  | [], _, us, x, r, _, _ => by
    cases x
    cases r
    refine ⟨[], nofun, ?_⟩
    rw [PyData.shownAll]
    exact .nil
  | d :: ds, _, us, x, r, hs, hz => by
    cases x with
    | cons x1 x2 =>
      cases r with
      | cons r1 r2 =>
        rw [PyData.shownAll] at hz ⊢
        rw [PyData.showableAll, Bool.and_eq_true] at hs
        obtain ⟨bs, q1, q2⟩ := Da.repr hok d _ _ x1 r1 hs.1 (hz _ List.mem_cons_self)
        obtain ⟨cs, q3, q4⟩ := DaAll.repr hok ds _ _ x2 r2 hs.2 fun t ht => hz t (List.mem_cons_of_mem _ ht)
        rw [PyData.depthAll]
        refine ⟨bs ++ cs, (q1.mono (Nat.le_max_left _ _)).append (q3.mono (Nat.le_max_right _ _)), .cons ((q2.more fun b hb => List.mem_append_left _ hb).level_le (Nat.le_max_left _ _)) (q4.more_le (fun b hb => List.mem_append_right _ hb) (Nat.le_max_right _ _))⟩
end
/-- by which slot a thing made of data shows itself -/
theorem Da.shows (hok : HOk P w H h) {a : Addr} {d : PyData} (x : Da K H (.ref a) d) (hs : d.showable = true) (hz : d.shown.length ≤ sizeLine) : ∃ T idr, ShowsBy P w h a d T idr := by
  obtain ⟨as, rd⟩ := Da.reads hok d _ (.ref a) x rfl
  cases x with
  | @lst _ xs ds e l =>
    have z : ObjOk P w H h a (.lst xs) := hok a _ e
    obtain ⟨_, its, n, rv, g⟩ := z
    rw [PyData.shown] at hz
    obtain ⟨bs, hb, hk⟩ := DaAll.repr hok ds xs its l rv (by simpa [PyData.showable] using hs) fun t ht => Nat.le_trans (listText_mem_le ht) hz
    have m := most_cons rd (n := PyData.depthAll ds) (by simp only [PyData.depth]) hb
    refine ⟨"list", _, F.slot_list_repr.toG, F.slot_list_str, F.slot_list_format, fun s k => ⟨_, k _ _ g, rfl⟩, fun A E s Q hg hu k hQ => ?_⟩
    rw [PyData.depth] at hu
    rw [PyData.shown] at hQ
    cases its with
    | nil =>
      have e0 : ds = [] := by
        have z1 := l.len
        have z2 := Vals.length rv
        exact List.eq_nil_of_length_eq_zero (by rw [← z1, z2]; rfl)
      subst e0
      rw [PyData.shownAll, listText_nil] at hQ
      exact call_list_repr_empty ⟨_, k _ _ g, rfl⟩ (k _ _ g) rfl (hQ s.heap _ _ fun _ _ e => e)
    | cons y its => exact call_list_reprK g rfl rfl m.2 (by rw [hk.length_eq]; simp) (fun i t e => hk.item i t (by simpa using e)) hg (fun b _ => Clear.nil b) hu k hQ hz
  | @tup _ xs ds e l =>
    have z : ObjOk P w H h a (.tup xs) := hok a _ e
    obtain ⟨_, its, rv, o, g, c, n, dd⟩ := z
    rw [PyData.shown] at hz
    obtain ⟨bs, hb, hk⟩ := DaAll.repr hok ds xs its l rv (by simpa [PyData.showable] using hs) fun t ht => Nat.le_trans (tupleText_mem_le ht) hz
    have m := most_cons rd (n := PyData.depthAll ds) (by simp only [PyData.depth]) hb
    refine ⟨"tuple", _, F.slot_tuple_repr, F.slot_tuple_str, F.slot_tuple_format, fun s k => ⟨_, k _ _ g, c⟩, fun A E s Q hg hu k hQ => ?_⟩
    rw [PyData.depth] at hu
    rw [PyData.shown] at hQ
    exact call_tuple_reprK g c dd m.2 hk hg (fun b _ => Clear.nil b) hu k hQ hz
  | @dic _ e =>
    obtain ⟨ns, o, es, n, g, c, dd, el⟩ := dict0_at hok e
    have m := most_cons rd (n := PyData.depthKv []) (bs := []) (by simp only [PyData.depth]) nofun
    rw [PyData.shown] at hz
    refine ⟨"dict", _, F.slot_dict_repr, F.slot_dict_str, F.slot_dict_format, fun s k => ⟨_, k _ _ g, c⟩, fun A E s Q hg hu k hQ => ?_⟩
    rw [PyData.depth] at hu
    rw [PyData.shown] at hQ
    exact call_dict_reprK g c dd ns m.2 (by rw [el]; exact .nil) hg (fun b _ => Clear.nil b) hu k hQ hz
end
/-- repr(e) of data -/
def rRepr (K : PySem.W.Frag) : List V → Hp → VK → Prop := fun xs H Q => ∃ (v : V) (d : PyData), xs = [v] ∧ Da K H v d ∧ d.showable = true ∧ d.shown.length ≤ sizeLine ∧ d.depth ≤ 50 ∧ Q (.str d.shown) H
theorem call_repr {X : Cx} (hg : X.A.guards = some []) (hu : X.A.units + 64 < cLine) : CallR X (.builtin "repr") (rRepr X.K) := by
  intro pins s σ H xs us Q I r ⟨v, d, e, x, hs, hz, hd, q⟩
  subst e
  obtain ⟨u, rfl, ru⟩ := vals1 r
  have byref : ∀ {a : Addr}, v = .ref a → wpAny (model X.prog X.w) X.A (call (.builtin "repr") [u]) (EP X pins σ Q) X.xe s := fun {a} e => by
    subst e
    obtain rfl : u = Value.ref a := ru
    obtain ⟨T, idr, S⟩ := Da.shows I.hok x hs hz
    refine call_repr_slot (by omega) (S.typeIs s fun _ _ e => e) S.slotRepr (S.call X.A.in1 X.xe s _ hg (by show X.A.units + 1 + d.depth < cLine; omega) (fun _ _ e => e) fun h' u tk hk => ⟨_, _, rfl, ?_⟩)
    exact ⟨.str d.shown, H, I.kept (t' := tk) hk, ⟨_, rfl⟩, q⟩
  cases x with
  | non =>
    obtain rfl : u = Value.none := ru
    rw [PyData.shown] at q
    exact PySem.P.repr_of_none ⟨.str _, H, I.tok _, ⟨_, rfl⟩, q⟩
  | bl b =>
    obtain rfl : u = Value.bool b := ru
    rw [PyData.shown] at q
    exact PySem.P.repr_of_bool ⟨.str _, H, I.tok _, ⟨_, rfl⟩, q⟩
  | int i =>
    obtain ⟨t, rfl⟩ : ∃ t, u = Value.int i t := ru
    rw [PyData.shown] at q
    exact PySem.P.repr_of_int (by simpa [PyData.showable] using hs) ⟨.str _, H, I.tok _, ⟨_, rfl⟩, q⟩
  | str y =>
    obtain ⟨t, rfl⟩ : ∃ t, u = Value.str y t := ru
    rw [PyData.shown] at q hz
    exact PySem.P.repr_of_str ⟨.str _, H, I.tok _, ⟨_, rfl⟩, q⟩ hz
  | lst e l => exact byref rfl
  | tup e l => exact byref rfl
  | dic e => exact byref rfl
end Fd

set_option maxRecDepth 100000
set_option maxHeartbeats 2000000
namespace Fd
open PySem PySem.Spec PyProof.Rows L2

/-! ### a def that is called where no repr runs -/
structure FnG (P : Program) (w : World) (K : PySem.W.Frag) (mg : Str → Option Value) (base : Heap)
    (k : Nat) (f : Addr) (fd : FuncData) (ps : List Str) (sp : Sp) : Prop where
  len : ∀ vs H Q E, sp vs H Q E → vs.length = ps.length
  run : ∀ (A : Around) (out : List Env) (s : Shared) (H : Hp) (args : Args) (us : List Value) (vs : List V) (Q : VK) (E : XK),
    A.guards = some [] → Room k A → Env0 P w K mg base A out s H →
    BindsTo s fd args (ps.zip us) → Vals vs us → sp vs H Q E →
    codeAny (model P w) A (.call (.ref f) args) (CR (L2.CX P w) out P w H s Q E) s
section
variable {P : Program} {w : World} {K : PySem.W.Frag} {mg : Str → Option Value} {base : Heap}
theorem FnG.of {k : Nat} {f : Addr} {fd : FuncData} {ps : List Str} {sp : Sp}
    (F : FnOk P w K mg base (L2.CX P w) k f fd ps sp) : FnG P w K mg base k f fd ps sp :=
  ⟨F.len, fun A out s H args us vs Q E _ hr => F.run A out s H args us vs Q E hr⟩
/-- its body as a term of rules, read where no repr runs -/
theorem fun_okG {x qual : Str} {st : Stmt} {f : Addr} {fd : FuncData} {N ps : List Str} {k : Nat} {sp : Sp}
    (F : Fun K x qual st f fd) (S : FnScope N ps (defScope st))
    (len : ∀ vs H Q E, sp vs H Q E → vs.length = ps.length)
    (body : ∀ (cdv : Value) (A : Around) (out : List Env) (s : Shared) (H : Hp) (vs : List V) (Q : VK) (E : XK),
      A.guards = some [] → Room k (A.deeper (envOfC qual (defScope st) s.heap.objs.size f cdv)) → sp vs H Q E →
      ∃ t, PSs (cxOf (L2.CX P w) P w K mg base N qual (defScope st) f cdv A out s H E) (defBody st) t ∧
        t { nx := fun _ H' => Q .non H', rt := Q } (start N vs) H) :
    FnG P w K mg base (k + 1) f fd ps sp := by
  obtain ⟨oc, od, kV, doc, pm, an, cdv, ct, osl, e, lk, hcd⟩ := F.ex
  subst e
  constructor
  · exact len
  intro A out s H args us vs Q E hg hr e0 hb r hsp
  have hl := len _ _ _ _ hsp
  have inK : K.In s.heap := PySem.W.Frag.In.keeps e0.mod.kin fun b o z => (e0.bs b o z).1
  have lim : s.heap.NoLimit := Heap.NoLimit.keeps e0.mod.nolimit fun b o z => (e0.bs b o z).1
  have kinds : ∀ y ∈ ps.zip us, (defScope st).names.lookup y.1 = some .local ∨
      ((defScope st).names.lookup y.1 = some .cell ∧
        ((cellsFrom (s.heap.objs.size + 1) (defScope st).names []).lookup y.1).isSome = true) := by
    rintro ⟨n, v⟩ hy
    have hn := S.par n (List.of_mem_zip hy).1
    cases hn with
    | inl q => exact .inl q
    | inr q => exact .inr ⟨q, PySem.W.cellsFrom_some _ _ _ (.inl q)⟩
  refine codeAny_call_function hr.depth (inK _ _ lk) rfl S.co S.gen rfl
    (PySem.W.codeRec_of inK hcd) (hb _ _ _ _ ?_)
  refine wpAny_newFunctionEnv_cells S.kind kinds ?_
  intro env he s1 x
  subst he
  constructor
  · exact Heap.NoLimit.keeps lim x.toInCall.keep
  refine codeAny_func ?_
  obtain ⟨t, ht, hq⟩ := body cdv A out s H vs Q E hg (Room.deeper hr _) hsp
  have I := inv_start (f := f) (cd := cdv) (E := E) (CX := L2.CX P w) S hr.hd e0 hl r x
  refine wpAny_mono (ht.run [] s1 (start N vs) H _ I hq) ?_ ?_
  · rintro fl s' hs
    cases fl with
    | next =>
      obtain ⟨σ', H', J, q⟩ := hs
      exact ⟨V.non, H', J.os, J.bare, J.base, J.hok, rfl, q⟩
    | ret u =>
      obtain ⟨v, σ', H', J, rv, q⟩ := hs
      exact ⟨v, H', J.os, J.bare, J.base, J.hok, rv, q⟩
    | brk =>
      obtain ⟨_, _, _, q⟩ := hs
      exact q.elim
    | cont =>
      obtain ⟨_, _, _, q⟩ := hs
      exact q.elim
  · exact fun e s' hs => hs
end
section
variable {X : Cx} {k : Nat} {x : Str} {f : Addr} {fd : FuncData} {ps : List Str} {sp : Sp} {E : XK} {e : Expr} {es : List Expr} {t : TA} {p pos : Pos}
theorem run_fnG {pins : List (Addr × Obj)} {σ : L2.St} {H : Hp} {s : Shared} {Q : VK} {us : List Value} {vs : List V}
    (F : FnG X.prog X.w X.K X.mg X.base k f fd ps sp) (gd : X.A.guards = some []) (hr : Room k X.A)
    (hb : Binds X.K fd ps []) (hx : Passes (L2.CX X.prog X.w) X E) (I : Inv X pins σ H s) (r : Vals vs us)
    (h : sp vs H Q E) : wpAny (model X.prog X.w) X.A (call (.ref f) us) (EP X pins σ Q) X.xe s := by
  have hl : us.length = ps.length := by
    rw [← r.length]
    exact F.len _ _ _ _ h
  have hb' := hb s us I.kIn (by rw [List.append_nil]; exact hl)
  rw [List.append_nil] at hb'
  refine wpAny_call (codeAny_mono (F.run X.A X.stack s H ⟨us, []⟩ us vs Q E gd hr I.env0 hb' r h) ?_)
  rintro (e | fl) s' hq
  · exact hx pins σ H s e s' I hq
  · cases fl with
    | ret u => exact I.after hq
    | next => exact hq.elim
    | brk => exact hq.elim
    | cont => exact hq.elim
/-- the def called x keeps sp where no repr runs -/
structure PrG (P : Program) (w : World) (K : PySem.W.Frag) (mg : Str → Option Value) (base : Heap)
    (k : Nat) (x : Str) (ps : List Str) (sp : Sp) : Prop where
  ex : ∃ (f : Addr) (fd : FuncData), mg x = some (.ref f) ∧ PySem.W.keepIn K (.ref f) = true ∧ Binds K fd ps [] ∧
    FnG P w K mg base k f fd ps sp
theorem pe_callG (C : PrG X.prog X.w X.K X.mg X.base k x ps sp) (gd : X.A.guards = some []) (hr : Room k X.A) (hg : Gl X x)
    (hx : Passes (L2.CX X.prog X.w) X E) (ha : PA X (e :: es) t) (hdb : (x == ("__debug__" : Str)) = false := by decide)
    (he : starEach (e :: es) X.env = (false, eval e X.env) :: starEach es X.env := by rfl)
    (hpl : (backTo pos (starEach es X.env)).any (·.1) = false := by rfl) :
    PE X (.Call (.Name x p) (e :: es) [] pos) (tCall sp [] E t) := by
  obtain ⟨f, fd, g, kp, b, F⟩ := C.ex
  constructor
  intro pins s σ H Q I h
  refine wpAny_Call_Name_kw (ld_glob I hg g ?_ hdb)
  refine PySem.W.callWith_K (h₀ := X.base) I.ok.mod.kin kp (thn (ha.run pos pins s σ H _ I h) ?_) he hpl
  rintro us s1 ⟨vs, H1, I1, r, q⟩
  rw [List.append_nil] at q
  exact ⟨I1.kIn, run_fnG F gd hr b hx I1 r q⟩
end
theorem Dx.prG {P : Program} {w : World} {K : PySem.W.Frag} {mg : Str → Option Value} {base : Heap} {x : Str} {st : Stmt} {N ps : List Str} {k : Nat} {sp : Sp}
    (D : Dx K mg x st ps) (S : FnScope N ps (defScope st)) (len : ∀ vs H Q E, sp vs H Q E → vs.length = ps.length)
    (body : ∀ (f : Addr) (cdv : Value) (A : Around) (out : List Env) (s : Shared) (H : Hp) (vs : List V) (Q : VK) (E : XK), A.guards = some [] →
      Room k (A.deeper (envOfC x (defScope st) s.heap.objs.size f cdv)) → sp vs H Q E →
      ∃ t, PSs (cxOf (L2.CX P w) P w K mg base N x (defScope st) f cdv A out s H E) (defBody st) t ∧
        t { nx := fun _ H' => Q .non H', rt := Q } (start N vs) H) : PrG P w K mg base (k + 1) x ps sp := by
  obtain ⟨f, fd, g, b, F⟩ := D.ex
  exact ⟨f, fd, g, F.kp, b, fun_okG F S len fun cdv A out s H vs Q E hg hr h => body f cdv A out s H vs Q E hg hr h⟩

/-! ### the head, for a law that calls repr -/
section
variable {P : Program} {w : World} {K : PySem.W.Frag} {mg mb : Str → Option Value} {k : Nat} {fa a : Addr} {fd : FuncData} {x : Str} {sp : Sp} {s : Shared} {vs : List Value} {ns : List Int}
/-- what is asked of the call -/
def Told (P : Program) (w : World) (fa a : Addr) (s : Shared) : Prop :=
  codeAny (model P w) callerA (.call (.ref fa) ⟨[.ref a], []⟩)
    (fun r s' => r = .ok (.ret (.bool true)) ∧ OldK s.heap s'.heap ∧ s'.os = s.os ∧ AllBare s'.gens) s
theorem told_core (KX : K.In s.heap) (hns : s.heap.Ns mainGlobals mg) (hb : s.heap.Ns builtinsNs mb)
    (hbb : ∀ y : Str, y ≠ "__name__" → mb y = bootBuiltins y) (hlim : s.heap.NoLimit) (hg : s.gens = #[])
    (ha : s.heap.get? a = some { cls := .type "list", data := .seq vs.toArray }) (hr : Room k callerA)
    (F : ∀ base : Heap, K.In base → base.Ns mainGlobals mg → FnG P w K mg base k fa fd [x] sp)
    (hbind : ∀ (t : Shared) (u : Value), BindsTo t fd ⟨[u], []⟩ [(x, u)]) {H : Hp} (hO : Only H)
    (hs : sp [.ref a] H (fun v _ => v = .bl true) fun _ _ _ => False) (hok : HOk P w H s.heap)
    (hA : ∀ b, H b ≠ none → b = a) (hK : H a ≠ none → K.lookup a = none) : Told P w fa a s := by
  have hid : ∀ {b : Addr} {o : Obj}, s.heap.get? b = some o → b ≠ a → (hidT s.heap H).get? b = some o := fun {b o} e n =>
    hidT_get e (Classical.byContradiction fun z => n (hA b z))
  have notA : ∀ {b : Addr} {o : Obj} {es : Array DictEntry} {ep : Nat}, s.heap.get? b = some o → o.data = .dict es ep → b ≠ a := by
    intro b o es ep e d z
    rw [z, ha] at e
    cases e
    cases (show Data.seq vs.toArray _ = Data.dict es ep from d)
  have ns1 : ∀ {b : Addr} {m : Str → Option Value}, s.heap.Ns b m → (hidT s.heap H).Ns b m := by
    rintro b m ⟨o, es, ep, e, d, r⟩
    exact ⟨o, es, ep, hid e (notA e d), d, r⟩
  have kb : K.In (hidT s.heap H) := by
    intro b o e
    refine hidT_get (KX b o e) (Classical.byContradiction fun z => ?_)
    have eb := hA b z
    subst eb
    rw [hK z] at e
    cases e
  have md : Mod K mg (hidT s.heap H) := by
    obtain ⟨mc, h1, h2⟩ := hlim
    exact ⟨kb, ns1 hns, ⟨mb, ns1 hb, hbb⟩, ⟨mc, ns1 h1, h2⟩⟩
  have none_in : ∀ b : Addr, b ∉ frs ([] : List Env) := fun b z => absurd (show b ∈ ([] : List Addr) from z) (by simp)
  have e0 : Env0 P w K mg (hidT s.heap H) callerA [] s H :=
    ⟨rfl, md, fun b o z => of_hidT z, Nat.le_of_eq (hidT_size _ _), trivial, fun b z => absurd z (none_in b), hok, .of_eq hg⟩
  have run := (F _ kb (ns1 hns)).run callerA [] s H ⟨[.ref a], []⟩ [.ref a] [.ref a] _ _ rfl hr e0 (hbind s (.ref a)) (.cons rfl .nil) hs
  refine codeAny_mono run ?_
  rintro (e | fl) s' q
  · obtain ⟨_, _, _, _, _, _, _, _, _, _, _, _, z⟩ := q
    exact z.elim
  · cases fl with
    | next => exact q.elim
    | brk => exact q.elim
    | cont => exact q.elim
    | ret u =>
      obtain ⟨v, H', os, bare, un, hok', rv, ev⟩ := q
      obtain rfl : v = .bl true := ev
      obtain rfl : u = Value.bool true := rv
      refine ⟨rfl, OldK.of_keep fun b o e => ?_, os, bare⟩
      rcases hO b with z | ⟨ob, xs, z⟩
      · exact un.keep b o e z (none_in b) (by simp)
      · obtain ⟨e1, _⟩ := hok b _ z
        obtain ⟨e2, _⟩ := hok' b _ (un.frzs b ob _ z)
        rw [e] at e1
        cases e1
        exact e2
theorem told (KX : K.In s.heap) (hns : s.heap.Ns mainGlobals mg) (hb : s.heap.Ns builtinsNs mb)
    (hbb : ∀ y : Str, y ≠ "__name__" → mb y = bootBuiltins y) (hlim : s.heap.NoLimit) (hg : s.gens = #[])
    (ha : s.heap.get? a = some { cls := .type "list", data := .seq vs.toArray }) (hi : IntsAre vs ns) (hl : ns.length ≤ sizeLine)
    (hr : Room k callerA) (F : ∀ base : Heap, K.In base → base.Ns mainGlobals mg → FnG P w K mg base k fa fd [x] sp)
    (hbind : ∀ (t : Shared) (u : Value), BindsTo t fd ⟨[u], []⟩ [(x, u)])
    (hsp : ∀ H : Hp, Only H → SqL K H a (ns.map V.int) → sp [.ref a] H (fun v _ => v = .bl true) fun _ _ _ => False) :
    Told P w fa a s := by
  have rv := vals_ints hi
  cases hk : K.lookup a with
  | some o =>
    have e := KX a o hk
    rw [ha] at e
    cases e
    have hO : Only fun _ => none := fun _ => .inl rfl
    refine told_core KX hns hb hbb hlim hg ha hr F hbind hO (hsp _ hO (.inr ⟨_, vs.toArray, _, hk, rfl, rfl, rfl, ?_, by simpa using rv⟩)) ?_ (fun b z => absurd rfl z) fun z => absurd rfl z
    · rw [List.size_toArray, hi.length]
      exact hl
    · intro b u z
      cases (show (none : Option HO) = some u from z)
  | none =>
    let H0 : Hp := fun _ => none
    let ob : HO := .frz { cls := .type "list", data := .seq vs.toArray } (.lst (ns.map V.int))
    have hO : Only (upd H0 a ob) := fun b => by
      by_cases hb : b = a
      · rw [hb]
        exact .inr ⟨_, _, upd_same⟩
      · exact .inl (upd_ne hb)
    refine told_core KX hns hb hbb hlim hg ha hr F hbind hO (hsp _ hO (.inl (.inr ⟨_, upd_same⟩))) ?_ ?_ fun _ => hk
    · intro b u z
      by_cases hb : b = a
      · subst hb
        rw [upd_same] at z
        cases z
        exact ⟨ha, by rw [List.length_map]; exact hl, vs, _, rv, ha⟩
      · rw [upd_ne hb] at z
        cases z
    · intro b z
      by_cases hb : b = a
      · exact hb
      · exact absurd (upd_ne hb) z
end
theorem walk_ofG {l : PySem.W.OpenLaw} {n k : Nat} {q : Program} {loose : List Str} {XP : (Str → Option Value) → Heap → Prop} {YP : World → Heap → Prop} {d : DefRec}
    {K : Params → PySem.W.Frag} {sp : World → Sp} {x : Str} (hn : l.most = some n) (hn2 : n ≤ sizeLine) (hdf : d.params.defaults = []) (hr : Room k callerA)
    (hY : ∀ (w : World) (h : Heap), YP w h → (K w.params).In h)
    (F : ∀ (w : World) (mg : Str → Option Value) (fa : Addr) (h : Heap), (K w.params).In h → h.Ns mainGlobals mg → mg d.name = some (.ref fa) →
      ∃ fd : FuncData, (∀ (s : Shared) (u : Value), BindsTo s fd ⟨[u], []⟩ [(x, u)]) ∧
        ∀ base : Heap, (K w.params).In base → base.Ns mainGlobals mg → FnG l.prog w (K w.params) mg base k fa fd [x] (sp w))
    (hsp : ∀ (w : World) (H : Hp) (a : Addr) (ns : List Int), ns.length ≤ n → (∀ z ∈ ns, Builtin.Int.intBits z ≤ 1048576) → Only H → SqL (K w.params) H a (ns.map V.int) →
      sp w [.ref a] H (fun v _ => v = .bl true) fun _ _ _ => False) :
    PySem.W.WalkO q loose XP YP l.row.toRowW d [] (fun f vs => PySem.call f vs) := by
  refine Att.attach_callB hn hdf ?_
  intro w s₀ s₁ mg mb fa o pm cd doc a vs ns G Y ho hd hcd hmg hobj hints hlen hbits hg
  have KX := hY w _ Y
  obtain ⟨fd, hb, hF⟩ := F w mg fa _ KX G.T.g hmg
  exact told KX G.T.g G.T.b G.T.builtins G.T.nolimit hg hobj hints (Nat.le_trans hlen hn2) hr hF hb fun H hO hS => hsp w H a ns hlen hbits hO hS
end Fd

set_option maxRecDepth 100000
set_option maxHeartbeats 2000000
namespace Fd
open PySem PySem.Spec PyProof.Rows L2

/-! ### things that are equal by their build, or one and the same -/
def plainV : V → Bool
  | .non | .bl _ | .int _ | .str _ | .ref _ | .ty _ => true
  | _ => false
def Al (H : Hp) : Nat → V → V → Prop
  | 0, x, y => x = y ∧ plainV x = true
  | n + 1, x, y => (x = y ∧ plainV x = true) ∨ ∃ (a b : Addr) (xs ys : List V), x = .ref a ∧ y = .ref b ∧
      ((H a = some (.lst xs) ∧ H b = some (.lst ys)) ∨ (H a = some (.tup xs) ∧ H b = some (.tup ys))) ∧
      xs.length = ys.length ∧ ∀ (i : Nat) (u v : V), xs[i]? = some u → ys[i]? = some v → Al H n u v
/-- two lists or two tuples, item by item -/
def Al2 (H : Hp) (n : Nat) (x y : V) : Prop := ∃ (a b : Addr) (xs ys : List V), x = .ref a ∧ y = .ref b ∧
  ((H a = some (.lst xs) ∧ H b = some (.lst ys)) ∨ (H a = some (.tup xs) ∧ H b = some (.tup ys))) ∧
  xs.length = ys.length ∧ ∀ (i : Nat) (u v : V), xs[i]? = some u → ys[i]? = some v → Al H n u v
theorem Al.same {H : Hp} {n : Nat} {x : V} (h : plainV x = true) : Al H n x x := by
  cases n with
  | zero => exact ⟨rfl, h⟩
  | succ n => exact .inl ⟨rfl, h⟩
theorem Al.both {H : Hp} {n : Nat} {x y : V} (h : Al2 H n x y) : Al H (n + 1) x y := .inr h
theorem Al2.lst {H : Hp} {n : Nat} {a b : Addr} {xs ys : List V} (ha : H a = some (.lst xs)) (hb : H b = some (.lst ys)) (hl : xs.length = ys.length)
    (h : ∀ (i : Nat) (u v : V), xs[i]? = some u → ys[i]? = some v → Al H n u v) : Al2 H n (.ref a) (.ref b) := ⟨a, b, xs, ys, rfl, rfl, .inl ⟨ha, hb⟩, hl, h⟩
theorem Al2.tup {H : Hp} {n : Nat} {a b : Addr} {xs ys : List V} (ha : H a = some (.tup xs)) (hb : H b = some (.tup ys)) (hl : xs.length = ys.length)
    (h : ∀ (i : Nat) (u v : V), xs[i]? = some u → ys[i]? = some v → Al H n u v) : Al2 H n (.ref a) (.ref b) := ⟨a, b, xs, ys, rfl, rfl, .inr ⟨ha, hb⟩, hl, h⟩
/-- the same plain items -/
theorem al_eq {H : Hp} {n : Nat} {xs : List V} (h : ∀ x ∈ xs, plainV x = true) : ∀ (i : Nat) (u v : V), xs[i]? = some u → xs[i]? = some v → Al H n u v := fun i u v e1 e2 => by
  rw [e1] at e2
  cases e2
  exact .same (h _ (List.mem_of_getElem? e1))
section
variable {P : Program} {w : World} {H : Hp} {s : Shared}
theorem plain_eqAt {A : Around} {x : V} {u v : Value} (h : plainV x = true) (ru : RelV x u) (rv : RelV x v) : SeqAt.EqAt A s u v true := by
  cases x with
  | non =>
    obtain rfl : u = Value.none := ru
    obtain rfl : v = Value.none := rv
    exact .same _
  | bl b =>
    obtain rfl : u = Value.bool b := ru
    obtain rfl : v = Value.bool b := rv
    exact .same _
  | int i =>
    obtain ⟨t, rfl⟩ : ∃ t, u = Value.int i t := ru
    obtain ⟨t', rfl⟩ : ∃ t, v = Value.int i t := rv
    have z := SeqAt.EqAt.int_int (A := A) (s := s) i t i t'
    rwa [beq_self_eq_true] at z
  | str y =>
    obtain ⟨t, rfl⟩ : ∃ t, u = Value.str y t := ru
    obtain ⟨t', rfl⟩ : ∃ t, v = Value.str y t := rv
    have z := SeqAt.EqAt.str_str (A := A) (s := s) y t y t'
    rwa [beq_self_eq_true] at z
  | ref a =>
    obtain rfl : u = Value.ref a := ru
    obtain rfl : v = Value.ref a := rv
    exact .same _
  | ty n =>
    obtain rfl : u = Value.type n := ru
    obtain rfl : v = Value.type n := rv
    exact .same _
  | byt b => cases h
  | flt b => cases h
theorem all_true (n : Nat) : (List.range n).all (fun _ => true) = true := by
  rw [List.all_eq_true]
  exact fun _ _ => rfl
/-- where two objects lie -/
theorem al2_at (hok : HOk P w H s.heap) {a b : Addr} {xs ys : List V} (h : (H a = some (.lst xs) ∧ H b = some (.lst ys)) ∨ (H a = some (.tup xs) ∧ H b = some (.tup ys))) :
    ∃ us vs : List Value, Vals xs us ∧ Vals ys vs ∧ ((s.heap.IsList a us.toArray ∧ s.heap.IsList b vs.toArray) ∨ (s.heap.IsTuple a us.toArray ∧ s.heap.IsTuple b vs.toArray)) := by
  rcases h with ⟨h1, h2⟩ | ⟨h1, h2⟩
  · have z1 : ObjOk P w H s.heap a (.lst xs) := hok a _ h1
    have z2 : ObjOk P w H s.heap b (.lst ys) := hok b _ h2
    obtain ⟨_, us, n, r1, g1⟩ := z1
    obtain ⟨_, vs, m, r2, g2⟩ := z2
    exact ⟨us, vs, r1, r2, .inl ⟨⟨_, g1, rfl, _, rfl⟩, ⟨_, g2, rfl, _, rfl⟩⟩⟩
  · have z1 : ObjOk P w H s.heap a (.tup xs) := hok a _ h1
    have z2 : ObjOk P w H s.heap b (.tup ys) := hok b _ h2
    obtain ⟨_, us, r1, g1⟩ := z1
    obtain ⟨_, vs, r2, g2⟩ := z2
    exact ⟨us, vs, r1, r2, .inr ⟨g1, g2⟩⟩
theorem vals_at : ∀ {xs : List V} {us : List Value} {j : Nat} (r : Vals xs us) (h : j < us.length), ∃ x, xs[j]? = some x ∧ RelV x us[j]
  | _, _, 0, .cons r _, _ => ⟨_, rfl, r⟩
  | _, _, j + 1, .cons _ r, h => by
    obtain ⟨x, e, q⟩ := vals_at (j := j) r (Nat.lt_of_succ_lt_succ h)
    exact ⟨x, e, q⟩
mutual
theorem Al.eqAt (hok : HOk P w H s.heap) : ∀ (n : Nat) (A : Around) (x y : V) (u v : Value), Al H n x y → RelV x u → RelV y v → A.units + n < cLine → SeqAt.EqAt A s u v true
  | 0, A, x, y, u, v, h, ru, rv, _ => by
    obtain ⟨rfl, p⟩ := h
    exact plain_eqAt p ru rv
  | n + 1, A, x, y, u, v, h, ru, rv, hu => by
    rcases h with ⟨rfl, p⟩ | h
    · exact plain_eqAt p ru rv
    · have e := Al.rcAt hok n A x y u v h ru rv hu
      obtain ⟨a, b, xs, ys, rfl, rfl, _⟩ := h
      obtain rfl : u = Value.ref a := ru
      obtain rfl : v = Value.ref b := rv
      by_cases hab : a = b
      · subst hab
        exact .same _
      · exact .of_refs hab e
theorem Al.rcAt (hok : HOk P w H s.heap) : ∀ (n : Nat) (A : Around) (x y : V) (u v : Value), Al2 H n x y → RelV x u → RelV y v → A.units + (n + 1) < cLine → SeqAt.RcAt A s u v true
  | n, A, x, y, u, v, h, ru, rv, hu => by
    obtain ⟨a, b, xs, ys, rfl, rfl, h, hl, q⟩ := h
    obtain rfl : u = Value.ref a := ru
    obtain rfl : v = Value.ref b := rv
    obtain ⟨us, vs, r1, r2, g⟩ := al2_at hok h
    have hsz : us.toArray.size = vs.toArray.size := by
      rw [List.size_toArray, List.size_toArray, ← r1.length, ← r2.length]
      exact hl
    have item : ∀ j (h1 : j < us.toArray.size) (h2 : j < vs.toArray.size), SeqAt.EqAt A.in1 s us.toArray[j] vs.toArray[j] ((fun _ => true) j) := fun j h1 h2 => by
      obtain ⟨x, e1, q1⟩ := vals_at r1 (j := j) (by simpa using h1)
      obtain ⟨y, e2, q2⟩ := vals_at r2 (j := j) (by simpa using h2)
      have z := Al.eqAt hok n A.in1 x y _ _ (q j x y e1 e2) q1 q2 (by show A.units + 1 + n < cLine; omega)
      simpa using z
    rcases g with ⟨g1, g2⟩ | ⟨g1, g2⟩
    · have z := SeqAt.RcAt.lists g1 g2 hsz (by omega) item
      rwa [all_true] at z
    · have z := SeqAt.RcAt.tuples g1 g2 (by omega) item
      rw [all_true, hsz] at z
      simpa using z
end
theorem Al.rcNe (hok : HOk P w H s.heap) {n : Nat} {A : Around} {x y : V} {u v : Value} (h : Al2 H n x y) (ru : RelV x u) (rv : RelV y v) (hu : A.units + (n + 1) < cLine) : SeqAt.RcNeAt A s u v false := by
  obtain ⟨a, b, xs, ys, rfl, rfl, h, hl, q⟩ := h
  obtain rfl : u = Value.ref a := ru
  obtain rfl : v = Value.ref b := rv
  obtain ⟨us, vs, r1, r2, g⟩ := al2_at hok h
  have hsz : us.toArray.size = vs.toArray.size := by
    rw [List.size_toArray, List.size_toArray, ← r1.length, ← r2.length]
    exact hl
  have item : ∀ j (h1 : j < us.toArray.size) (h2 : j < vs.toArray.size), SeqAt.EqAt A.in1 s us.toArray[j] vs.toArray[j] ((fun _ => true) j) := fun j h1 h2 => by
    obtain ⟨x, e1, q1⟩ := vals_at r1 (j := j) (by simpa using h1)
    obtain ⟨y, e2, q2⟩ := vals_at r2 (j := j) (by simpa using h2)
    have z := Al.eqAt hok n A.in1 x y _ _ (q j x y e1 e2) q1 q2 (by show A.units + 1 + n < cLine; omega)
    simpa using z
  rcases g with ⟨g1, g2⟩ | ⟨g1, g2⟩
  · have z := SeqAt.RcNeAt.lists g1 g2 hsz (by omega) item
    rwa [all_true] at z
  · have z := SeqAt.RcNeAt.tuples g1 g2 (by omega) item
    rw [all_true, hsz] at z
    simpa using z
end
/-- x == y, x != y of such -/
def rEqL : R2 := fun x y H Q => (∃ n, n ≤ 60 ∧ Al2 H n x y) ∧ Q (.bl true) H
def rNeL : R2 := fun x y H Q => (∃ n, n ≤ 60 ∧ Al2 H n x y) ∧ Q (.bl false) H
theorem op_eqL {X : Cx} (hu : X.A.units + 64 < cLine) : OpR X (compareOp .Eq) rEqL := by
  rintro pins s σ H x y v u Q I rx ry ⟨⟨n, hn, h⟩, q⟩
  exact Al.rcAt I.hok n X.A x y v u h rx ry (by omega) X.prog X.w X.xe _ ⟨.bl true, H, I, rfl, q⟩
theorem op_neL {X : Cx} (hu : X.A.units + 64 < cLine) : OpR X (compareOp .NotEq) rNeL := by
  rintro pins s σ H x y v u Q I rx ry ⟨⟨n, hn, h⟩, q⟩
  exact Al.rcNe I.hok h rx ry (by omega) X.prog X.w X.xe _ ⟨.bl false, H, I, rfl, q⟩

/-! ### errors that are caught -/
structure Ec (K : PySem.W.Frag) (C : Addr) : Prop where
  x : XfC K C
  cl : (PySem.W.clsIn K C).isSome = true
  ha : PySem.W.findIn K (.ref C) "__class__" = some (some (.builtin "object.__class__"))
  hn : PySem.W.specialIn K (.builtin "object.__class__") "__get__" = some (some (.builtin "getset_descriptor.__get__"))
  ht : PySem.W.takesIn K (.builtin "object.__class__") = some true
  hm : PySem.W.mroIn K C (.type "object") = some true
  v : PySem.W.findIn K (.ref C) "value" = some none
theorem err_at {X : Cx} {a C dd : Addr} {oe : Obj} {fs : List (Str × V)} {pn pins : List (Addr × Obj)} {σ : L2.St} {H : Hp} {s : Shared} (I : Inv (X.suite a ((a, oe) :: pn)) pins σ H s)
    (hz : Zc (.ref C) (some dd) oe) (hf : ∃ vs, oe.data = .fields vs) (hd : H dd = some (.xd fs)) :
    ∃ (od : Obj) (mA : Str → Option Value), PySem.W.InstAt s.heap a oe C (some od) ∧ (∀ f, RelO (fs.lookup f) (mA f)) ∧ ∀ f, PySem.W.lookIn f od = some (mA f) := by
  obtain ⟨vs, hv⟩ := hf
  have hx : ObjOk X.prog X.w H s.heap dd (.xd fs) := I.hok dd _ hd
  obtain ⟨mA, hns, hr⟩ := hx
  obtain ⟨od, ho, hl⟩ := lookIn_ns hns
  refine ⟨od, mA, ⟨(I.pin (a, oe) (List.mem_append_left _ List.mem_cons_self)).1, hz.1, ?_, ?_⟩, hr, hl⟩
  · unfold PySem.W.notCls
    rw [hv] <;> rfl
  · rw [hz.2]
    exact ho
/-- error.n -/
def tXfD (K : PySem.W.Frag) (a : Addr) (cls : Value) (d : Option Addr) (n : Str) (te : TE) : TE := fun σ H Q => te σ H fun x H1 =>
  x = .ref a ∧ ∃ (C dd : Addr) (fs : List (Str × V)) (v : V), cls = .ref C ∧ Ec K C ∧ PySem.W.findIn K (.ref C) n = some none ∧ d = some dd ∧ H1 dd = some (.xd fs) ∧ fs.lookup n = some v ∧ Q v H1
theorem pe_xfD {X : Cx} {a : Addr} {oe : Obj} {cls : Value} {d : Option Addr} {pn : List (Addr × Obj)} {e : Expr} {te : TE} {pos : Pos} {n : Str} (hz : Zc cls d oe) (hf : ∃ vs, oe.data = .fields vs)
    (he : PE (X.suite a ((a, oe) :: pn)) e te) (hb : attributeBase e n X.env (eval e X.env) = eval e X.env := by rfl) : PE (X.suite a ((a, oe) :: pn)) (.Attribute e n pos) (tXfD X.K a cls d n te) := by
  constructor
  intro pins s σ H Q I h
  refine attr_of hb (thn (he.run pins s σ H _ I h) ?_)
  rintro u s1 ⟨x, H1, I1, rx, ex, C, dd, fs, v, ec, T, hno, ed, ea, l, q⟩
  subst ex ec ed
  obtain rfl : u = Value.ref a := rx
  obtain ⟨od, mA, J, hr, hl⟩ := err_at I1 hz hf ea
  obtain ⟨u, hu, ru⟩ := RelO.some_of (v := v) (o := mA n) (by rw [← l]; exact hr n)
  exact HandSPX.exc_get I1.kIn J T.x.ga T.x.gg T.x.exC (PySem.W.findObj_own T.x.hdC hno rfl (by rw [hl, hu])) (handed_of ru) ⟨v, H1, I1.tok _, ru, q⟩
/-- isinstance(error, c) -/
def rIsD (K : PySem.W.Frag) (a : Addr) (cls : Value) (d : Option Addr) : List V → Hp → VK → Prop := fun xs H Q => ∃ (C dd : Addr) (fs : List (Str × V)) (c : V) (cv : Value) (b : Bool),
  cls = .ref C ∧ Ec K C ∧ d = some dd ∧ H dd = some (.xd fs) ∧ xs = [.ref a, c] ∧ ClsV c cv ∧ PySem.W.kitOne K (.ref C) cv = some b ∧ Q (.bl b) H
theorem call_isD {X : Cx} {a : Addr} {oe : Obj} {cls : Value} {d : Option Addr} {pn : List (Addr × Obj)} (hz : Zc cls d oe) (hf : ∃ vs, oe.data = .fields vs) :
    CallR (X.suite a ((a, oe) :: pn)) (.builtin "isinstance") (rIsD X.K a cls d) := by
  rintro pins s σ H xs us Q I r ⟨C, dd, fs, c, cv, b, ec, T, ed, ea, rfl, k, e, q⟩
  subst ec ed
  obtain ⟨u1, u2, rfl, r1, r2⟩ := vals2 r
  obtain rfl : u1 = Value.ref a := r1
  have e2 := k.eq r2
  subst e2
  obtain ⟨od, mA, J, hr, hl⟩ := err_at I hz hf ea
  exact PySem.W.kia_one (PySem.W.kitx_exc T.cl T.x.ga T.x.gg T.x.exC T.ha T.hn T.ht T.hm) I.kIn J e (fun z => nomatch z) fun tk => ⟨.bl b, H, I.tok tk, rfl, q⟩
/-- a call in a try's body -/
theorem pe_callT {X : Cx} {k : Nat} {x : Str} {ps : List Str} {sp : Sp} {W : WX} {e : Expr} {es : List Expr} {t : TA} {p pos : Pos} (C : Pr X.prog X.w X.K X.mg X.base k x ps sp) (hr : Room k X.A) (tk : L2.Takes X W) (hg : Gl X x)
    (ha : PA X (e :: es) t) (hdb : (x == ("__debug__" : Str)) = false := by decide)
    (he : starEach (e :: es) X.env = (false, eval e X.env) :: starEach es X.env := by rfl) (hpl : (backTo pos (starEach es X.env)).any (·.1) = false := by rfl) :
    PE X (.Call (.Name x p) (e :: es) [] pos) (tCallS sp (WE W) t) := by
  obtain ⟨f, fd, g, kp, b, F⟩ := C.ex
  exact pe_callS F hr hg g kp b (fun σ => passAt tk σ) ha hdb he hpl
end Fd

set_option maxRecDepth 100000
set_option maxHeartbeats 2000000
namespace Fd
open PySem PySem.Spec PyProof.Rows L2

/-- a method of a built-in type, told by K alone (in a suite) -/
theorem pe_bmK {X : Cx} (K : PySem.W.Frag) (eK : X.K = K) {T name id : String} {o e : Expr} {es : List Expr} {to : TE} {t : TA} {r : V → List V → Hp → VK → Prop} {apos cpos : Pos}
    (pa : PlainAttrs T) (slot : Slot T name id) (hty : typeOf (.builtin id) = pure (.type "method_descriptor")) (hm : MtR X id r) (ho : PE X o to) (ha : PA X (e :: es) t)
    (hbase : attributeBase o name X.env (eval o X.env) = eval o X.env := by rfl)
    (hfew : ((backTo cpos (starEach (e :: es) X.env)).all (fun x => !x.1) && (backToKw cpos (keywordEach [] X.env)).all (fun x => x.1.isSome) &&
      decide ((e :: es).length + ([] : List Keyword).length + (if ([] : List Keyword).isEmpty then 0 else 1) < 30)) = true := by rfl)
    (hline : (apos.endLine == cpos.line) = true := by rfl) (hs : starEach (e :: es) X.env = (false, eval e X.env) :: starEach es X.env := by rfl)
    (hplain : (backTo cpos (starEach es X.env)).any (·.1) = false := by rfl) : PE X (.Call (.Attribute o name apos) (e :: es) [] cpos) (tBM K T r to t) := by
  subst eK
  exact pe_bm pa slot hty hm ho ha hbase hfew hline hs hplain
/-! ### data that is short when it is written -/
structure Fn (d : PyData) (n k : Nat) : Prop where
  show' : d.showable = true
  len : d.shown.length ≤ n
  dep : d.depth ≤ k
theorem Fn.le {d : PyData} {n k n' k' : Nat} (h : Fn d n k) (h1 : n ≤ n') (h2 : k ≤ k') : Fn d n' k' := ⟨h.show', Nat.le_trans h.len h1, Nat.le_trans h.dep h2⟩
theorem Fn.non : Fn .none 4 0 := ⟨by rw [PyData.showable], by rw [PyData.shown]; decide, by rw [PyData.depth]; exact Nat.le_refl _⟩
theorem Fn.bl (b : Bool) : Fn (.bool b) 5 0 := ⟨by rw [PyData.showable], by rw [PyData.shown]; cases b <;> decide, by rw [PyData.depth]; exact Nat.le_refl _⟩
theorem Fn.int {i : Int} (h : i.natAbs < 10 ^ 45) : Fn (.int i) 46 0 := by
  refine ⟨?_, ?_, by rw [PyData.depth]; exact Nat.le_refl _⟩
  · rw [PyData.showable]
    refine decide_eq_true ?_
    by_cases z : i.natAbs = 0
    · rw [z]
      decide
    · exact (Nat.log2_lt z).mpr (Nat.lt_of_lt_of_le (Nat.lt_trans h (show (10 : Nat) ^ 45 < 2 ^ 150 by decide)) (Nat.pow_le_pow_right (by decide) (show 150 ≤ 1920 by decide)))
  · rw [PyData.shown]
    have e := int_text_length_le10 (k := 45) (by decide) h
    rw [PySem.ofString_length]
    omega
theorem Fn.str {x : Str} {n : Nat} (h : (reprText x).length ≤ n) : Fn (.str x) n 0 := ⟨by rw [PyData.showable], by rw [PyData.shown]; exact h, by rw [PyData.depth]; exact Nat.le_refl _⟩
theorem textFrom_le : ∀ (ts : List Str) (k : Nat) (acc : Str), (textFrom k acc ts).length ≤ acc.length + piled ts
  | [], _, acc => by show acc.length ≤ acc.length + 0; omega
  | t :: r, k, acc => by
    have ih := textFrom_le r (k + 1) (acc ++ (if k > 0 then ", " else "" : String) ++ t)
    have e : (acc ++ (if k > 0 then ", " else "" : String) ++ t).length ≤ acc.length + 2 + t.length := by
      rw [strLen_append, strLen_append]
      split
      · exact Nat.le_refl _
      · show acc.length + 0 + t.length ≤ _
        omega
    show (textFrom (k + 1) _ r).length ≤ _
    rw [piled_cons]
    omega
theorem piled_le {n : Nat} : ∀ (ts : List Str), (∀ t ∈ ts, t.length ≤ n) → piled ts ≤ ts.length * (n + 2)
  | [], _ => Nat.zero_le _
  | t :: r, h => by
    rw [piled_cons, List.length_cons, Nat.succ_mul]
    have h1 := h t List.mem_cons_self
    have h2 := piled_le r fun u hu => h u (List.mem_cons_of_mem _ hu)
    omega
theorem shownAll_map : ∀ ds : List PyData, PyData.shownAll ds = ds.map PyData.shown
  | [] => by rw [PyData.shownAll]; rfl
  | d :: ds => by rw [PyData.shownAll, shownAll_map ds]; rfl
theorem showableAll_of : ∀ ds : List PyData, (∀ d ∈ ds, d.showable = true) → PyData.showableAll ds = true
  | [], _ => by rw [PyData.showableAll]
  | d :: ds, h => by
    rw [PyData.showableAll, h d List.mem_cons_self, showableAll_of ds fun e he => h e (List.mem_cons_of_mem _ he)]
    rfl
theorem depthAll_of {k : Nat} : ∀ ds : List PyData, (∀ d ∈ ds, d.depth ≤ k) → PyData.depthAll ds ≤ k
  | [], _ => by rw [PyData.depthAll]; exact Nat.zero_le _
  | d :: ds, h => by
    rw [PyData.depthAll]
    exact Nat.max_le.mpr ⟨h d List.mem_cons_self, depthAll_of ds fun e he => h e (List.mem_cons_of_mem _ he)⟩
theorem all_piled {n k : Nat} {ds : List PyData} (h : ∀ d ∈ ds, Fn d n k) : piled (PyData.shownAll ds) ≤ ds.length * (n + 2) := by
  have z := piled_le (n := n) (PyData.shownAll ds) fun t ht => by
    rw [shownAll_map] at ht
    obtain ⟨d, hd, rfl⟩ := List.mem_map.mp ht
    exact (h d hd).len
  rwa [shownAll_map, List.length_map, ← shownAll_map] at z
theorem Fn.lst {n k : Nat} {ds : List PyData} (h : ∀ d ∈ ds, Fn d n k) : Fn (.list ds) (2 + ds.length * (n + 2)) (k + 1) := by
  refine ⟨?_, ?_, ?_⟩
  · rw [PyData.showable]
    exact showableAll_of ds fun d hd => (h d hd).show'
  · rw [PyData.shown]
    have z := textFrom_le (PyData.shownAll ds) 0 "["
    have e : (listText (PyData.shownAll ds)).length = (textFrom 0 "[" (PyData.shownAll ds)).length + 1 := by
      show (textFrom 0 "[" _ ++ "]").length = _
      rw [strLen_append]
      rfl
    have e1 : ("[" : Str).length = 1 := rfl
    have e2 := all_piled h
    omega
  · rw [PyData.depth]
    exact Nat.succ_le_succ (depthAll_of ds fun d hd => (h d hd).dep)
theorem Fn.tup {n k : Nat} {ds : List PyData} (h : ∀ d ∈ ds, Fn d n k) : Fn (.tuple ds) (3 + ds.length * (n + 2)) (k + 1) := by
  refine ⟨?_, ?_, ?_⟩
  · rw [PyData.showable]
    exact showableAll_of ds fun d hd => (h d hd).show'
  · rw [PyData.shown]
    have e2 := all_piled h
    generalize PyData.shownAll ds = ts at e2
    have e3 : (Str.join ", " ts).length ≤ piled ts := by
      cases ts with
      | nil => exact Nat.le_refl _
      | cons t r =>
        have z := join_length_add (t :: r) (by simp)
        omega
    unfold tupleText
    rw [strLen_append, strLen_append]
    have e4 : ("(" : Str).length = 1 := rfl
    have e5 : (Str.ofString (if ts.length == 1 then ",)" else ")" : String)).length ≤ 2 := by split <;> decide
    omega
  · rw [PyData.depth]
    exact Nat.succ_le_succ (depthAll_of ds fun d hd => (h d hd).dep)
theorem Fn.dic : Fn (.dict []) 2 1 := ⟨by rw [PyData.showable, PyData.showableKv], by rw [PyData.shown, PyData.shownKv]; decide, by rw [PyData.depth, PyData.depthKv]; exact Nat.le_refl _⟩
theorem Fn.ints {ns : List Int} (h : ∀ z ∈ ns, z.natAbs < 10 ^ 45) : ∀ d ∈ ns.map PyData.int, Fn d 46 0 := fun d hd => by
  obtain ⟨z, hz, rfl⟩ := List.mem_map.mp hd
  exact .int (h z hz)
theorem Sgn.small {ns : List Int} (h : Sgn ns) : ∀ z ∈ ns, z.natAbs < 10 ^ 45 := fun z hz => by
  have q := h z hz
  have e : (10 : Nat) ^ 45 = 1000000000000000000000000000000000000000000000 := by decide
  omega
theorem nat45 {i : Int} (h0 : -1000000000 ≤ i) (h1 : i ≤ 100000000000000000000) : i.natAbs < 10 ^ 45 := by
  have e : (10 : Nat) ^ 45 = 1000000000000000000000000000000000000000000000 := by decide
  omega

/-! ### data that lies off the tape -/
def off (t : Addr) (H : Hp) : Hp := fun b => if b = t then none else H b
theorem off_ne {t b : Addr} {H : Hp} (h : b ≠ t) : off t H b = H b := if_neg h
theorem off_on {t : Addr} {H : Hp} : off t H t = none := if_pos rfl
theorem off_le {t : Addr} {H : Hp} : Same (off t H) H := fun b o e => by
  by_cases h : b = t
  · rw [h, off_on] at e
    cases e
  · rwa [off_ne h] at e
theorem off_of {t b : Addr} {H : Hp} {o : HO} (h : b ≠ t) (e : H b = some o) : off t H b = some o := by rw [off_ne h, e]
theorem Same.off {t : Addr} {H H' : Hp} (s : Same H H') : Same (Fd.off t H) (Fd.off t H') := fun b o e => by
  by_cases h : b = t
  · rw [h, off_on] at e
    cases e
  · rw [off_ne h] at e ⊢
    exact s b o e
theorem Go.off {t c : Addr} {H H' : Hp} (g : Go t c H H') : Same (Fd.off t H) (Fd.off t H') := fun b o e => by
  by_cases h : b = t
  · rw [h, off_on] at e
    cases e
  · rw [off_ne h] at e ⊢
    exact g.keep b o h e
theorem Da.on {K : PySem.W.Frag} {t : Addr} {H : Hp} {v : V} {d : PyData} (h : Da K (Fd.off t H) v d) : Da K H v d := h.keep off_le d v
theorem Da.go {K : PySem.W.Frag} {t c : Addr} {H H' : Hp} {v : V} {d : PyData} (h : Da K (Fd.off t H) v d) (g : Go t c H H') : Da K (Fd.off t H') v d := h.keep g.off d v
theorem Da.go' {K : PySem.W.Frag} {t : Addr} {H H' : Hp} {v : V} {d : PyData} (h : Da K (Fd.off t H) v d) (s : Same H H') : Da K (Fd.off t H') v d := h.keep (Same.off s) d v
theorem DaAll.go {K : PySem.W.Frag} {t c : Addr} {H H' : Hp} {vs : List V} {ds : List PyData} (h : DaAll K (Fd.off t H) vs ds) (g : Go t c H H') : DaAll K (Fd.off t H') vs ds := h.keep g.off ds vs
theorem Da.plain {K : PySem.W.Frag} {H : Hp} {v : V} {d : PyData} (h : Da K H v d) : plainV v = true := by cases h <;> rfl
theorem DaAll.set {K : PySem.W.Frag} {H : Hp} : ∀ {vs : List V} {ds : List PyData} (i : Nat) {v : V} {d : PyData}, DaAll K H vs ds → Da K H v d → DaAll K H (vs.set i v) (ds.set i d)
  | _, _, _, _, _, .nil, _ => .nil
  | _, _, 0, _, _, .cons _ h2, h => .cons h h2
  | _, _, i + 1, _, _, .cons h1 h2, h => .cons h1 (DaAll.set i h2 h)
theorem ixN_nat {n j : Nat} (h : j < n) : ixN n (j : Int) = some j := by
  unfold ixN
  rw [if_pos (Int.natCast_nonneg j), if_pos (by omega)]
  rfl
/-- what stands in H' and did not stand in H -/
def newer (H H' : Hp) : Hp := fun b => match H b with | none => H' b | some _ => none
theorem newer_le {H H' : Hp} : Same (newer H H') H' := fun b o e => by
  unfold newer at e
  split at e
  · exact e
  · cases e
theorem newer_of {H H' : Hp} {b : Addr} {o : HO} (n : H b = none) (e : H' b = some o) : newer H H' b = some o := by
  unfold newer
  rw [n]
  exact e
theorem newer_none {H H' : Hp} {b : Addr} {o : HO} (e : newer H H' b = some o) : H b = none := by
  unfold newer at e
  split at e
  · assumption
  · cases e
theorem newer_off {t : Addr} {H H' : Hp} (h : H t ≠ none) : Same (newer H H') (off t H') := fun b o e => by
  have n := newer_none e
  rw [off_ne fun z => h (by rw [← z]; exact n)]
  exact newer_le b o e
theorem newer_upd {H H' : Hp} {a : Addr} {x : HO} (h : H a ≠ none) : Same (newer H H') (newer H (upd H' a x)) := fun b o e => by
  have n := newer_none e
  refine newer_of n ?_
  rw [upd_ne fun z => h (by rw [← z]; exact n)]
  exact newer_le b o e
theorem Go.free {t c : Addr} {H H' : Hp} (g : Go t c H H') {p : Addr} (n : H' p = none) : H p = none := by
  cases e : H p with
  | none => rfl
  | some o =>
    have pt : p ≠ t := fun z => by
      obtain ⟨T, e1, _⟩ := g.tape
      rw [z, e1] at n
      cases n
    rw [g.keep p o pt e] at n
    cases n
theorem TapeAt.ne {H : Hp} {t c : Addr} (h : TapeAt H t c) : H t ≠ none := fun z => by
  obtain ⟨T, e1, _⟩ := h
  rw [z] at e1
  cases e1
/-- what the laws hand in that is none -/
def Odd (d : PyData) : Prop := Fn d 500 2 ∧ (dItems d).length ≤ 2
def spOdd (K : PySem.W.Frag) : Sp := fun vs H Q _ => ∃ t c : Addr, vs = [.ref t] ∧ TapeAt H t c ∧ ∀ v d H', Odd d → Da K (newer H H') v d → Go t c H H' → Q v H'
theorem odd_ints {ns : List Int} (h : ∀ z ∈ ns, z.natAbs < 10 ^ 45) (hl : ns.length ≤ 2) : Odd (.list (ns.map PyData.int)) ∧ Odd (.tuple (ns.map PyData.int)) := by
  have e : (ns.map PyData.int).length ≤ 2 := by rw [List.length_map]; exact hl
  have m : (ns.map PyData.int).length * (46 + 2) ≤ 2 * 48 := Nat.mul_le_mul_right _ e
  exact ⟨⟨(Fn.lst (Fn.ints h)).le (by omega) (by decide), e⟩, ⟨(Fn.tup (Fn.ints h)).le (by omega) (by decide), e⟩⟩
end Fd

set_option maxRecDepth 100000
set_option maxHeartbeats 2000000
namespace Fd
open PySem PySem.Spec PyProof.Rows L2

/-! ### errors that are made and held, not raised -/
/-- x(..), an error class at C with its own __init__ -/
def tMkV (C : Addr) (sp : Sp) (ta : TA) : TE := fun σ H Q => ta σ H fun vs H1 => vs.length ≤ 1000 ∧ ∀ a, H1 a = none →
  sp (.ref a :: vs) (upd H1 a (exo a C none)) (fun v H2 => v = .non ∧ Q (.ref a) H2) fun _ _ _ => False
section
variable {X : Cx} {C fI : Addr} {k : Nat} {fd : FuncData} {ps : List Str} {sp : Sp}
theorem make_err {pins : List (Addr × Obj)} {σ : L2.St} {H : Hp} {Q : VK} {us : List Value} {vs : List V} {s : Shared} (T : OexC X.K C) (iC : PySem.W.findIn X.K (.ref C) "__init__" = some (some (.ref fI)))
    (tI : PySem.W.typeIn X.K (.ref fI) = some (.type "function")) (F1 : FnOk X.prog X.w X.K X.mg X.base (L2.CX X.prog X.w) k fI fd ps sp) (hr : Room (k + 1) X.A) (hb : Binds X.K fd ps [])
    (hx : Passes (L2.CX X.prog X.w) X (fun _ _ _ => False)) (I1 : Inv X pins σ H s) (r1 : Vals vs us) (hz : vs.length ≤ 1000)
    (q1 : ∀ a, H a = none → sp (.ref a :: vs) (upd H a (exo a C none)) (fun v H2 => v = .non ∧ Q (.ref a) H2) fun _ _ _ => False) :
    wpAny (model X.prog X.w) X.A (call (.ref C) us) (EP X pins σ Q) X.xe s := by
  obtain ⟨nm, q, N, bs, bm, sn, sub, ab, col, dd, k0, k1, k2, k3, k5, hC, hbm⟩ := T.cls
  obtain ⟨hp, g, dr, tk, os⟩ := s
  have lt1 : hp.objs.size ≤ hp.objs.size + 1 := Nat.le_succ _
  have fresh : H (hp.objs.size + 1) = none := I1.hok.fresh lt1
  have hq := q1 _ fresh
  have grown : ∀ b o, hp.get? b = some o → ((hp.push (PySem.W.kdv_tup us)).push (PySem.HandSPX.excO C hp.objs.size)).get? b = some o := fun b o e =>
    Heap.get?_push_of_some _ (Heap.get?_push_of_some _ e)
  have there : ((hp.push (PySem.W.kdv_tup us)).push (PySem.HandSPX.excO C hp.objs.size)).get? (hp.objs.size + 1) = some (PySem.HandSPX.excO C hp.objs.size) := by heap_get
  have I2 := I1.laid (t' := tk) (a := hp.objs.size + 1) (o := exo (hp.objs.size + 1) C none) (h' := (hp.push (PySem.W.kdv_tup us)).push (PySem.HandSPX.excO C hp.objs.size)) grown lt1 (exo_ok there)
  have r2 : Vals (V.ref (hp.objs.size + 1) :: vs) (Value.ref (hp.objs.size + 1) :: us) := .cons rfl r1
  have hl : (Value.ref (hp.objs.size + 1) :: us).length = ps.length := by
    have e := r2.length
    rw [F1.len _ _ _ _ hq] at e
    exact e.symm
  have hus : us.length ≤ sizeLine := by
    rw [← Paired.length r1, sizeLine_eq]
    omega
  have hb' := hb ⟨(hp.push (PySem.W.kdv_tup us)).push (PySem.HandSPX.excO C hp.objs.size), g, dr, tk, os⟩ (Value.ref (hp.objs.size + 1) :: us) I2.kIn (by rw [List.append_nil]; exact hl)
  rw [List.append_nil] at hb'
  refine wpAny_call (PySem.HandSPX.call_own F.excBase_ValueError (fun Y => PySem.HandSPX.refsVE_contains Y bm hbm) (I1.kIn _ _ hC) (PySem.W.looks_findIn I1.kIn iC) (fun self => PySem.W.bind_fn I1.kIn self tI) hus
    (codeAny_mono (F1.run _ X.stack _ _ _ _ _ _ _ (hr.make C us []) (I2.env0.make C us []) hb' r2 hq) ?_))
  rintro (er | fl) s' hq'
  · exact hx pins σ _ _ er s' I2 hq'
  · cases fl with
    | ret u =>
      obtain ⟨v', H', I', rv, ev, q2⟩ := I2.after hq'
      subst ev
      exact ⟨rv, .ref (hp.objs.size + 1), H', I', rfl, q2⟩
    | next => exact hq'.elim
    | brk => exact hq'.elim
    | cont => exact hq'.elim
variable {x : Str} {e : Expr} {es : List Expr} {ta : TA} {p pos : Pos}
theorem pe_mkv (T : OexC X.K C) (iC : PySem.W.findIn X.K (.ref C) "__init__" = some (some (.ref fI))) (tI : PySem.W.typeIn X.K (.ref fI) = some (.type "function"))
    (F1 : FnOk X.prog X.w X.K X.mg X.base (L2.CX X.prog X.w) k fI fd ps sp) (hr : Room (k + 1) X.A) (hb : Binds X.K fd ps []) (hx : Passes (L2.CX X.prog X.w) X (fun _ _ _ => False)) (hg : Gl X x) (hm : X.mg x = some (.ref C)) (ha : PA X (e :: es) ta)
    (hdb : (x == ("__debug__" : Str)) = false := by decide) (he : starEach (e :: es) X.env = (false, eval e X.env) :: starEach es X.env := by rfl) (hpl : (backTo pos (starEach es X.env)).any (·.1) = false := by rfl) :
    PE X (.Call (.Name x p) (e :: es) [] pos) (tMkV C sp ta) := by
  constructor
  intro pins s σ H Q I h
  refine wpAny_Call_Name_kw (ld_glob I hg hm ?_ hdb)
  refine PySem.W.callWith_K (h₀ := X.base) I.ok.mod.kin T.kC (thn (ha.run pos pins s σ H _ I h) ?_) he hpl
  rintro us s1 ⟨vs, H1, I1, r1, hz, q1⟩
  exact ⟨I1.kIn, make_err T iC tI F1 hr hb hx I1 r1 hz q1⟩
theorem pe_mkv0 (T : OexC X.K C) (iC : PySem.W.findIn X.K (.ref C) "__init__" = some (some (.ref fI))) (tI : PySem.W.typeIn X.K (.ref fI) = some (.type "function"))
    (F1 : FnOk X.prog X.w X.K X.mg X.base (L2.CX X.prog X.w) k fI fd ps sp) (hr : Room (k + 1) X.A) (hb : Binds X.K fd ps []) (hx : Passes (L2.CX X.prog X.w) X (fun _ _ _ => False)) (hg : Gl X x) (hm : X.mg x = some (.ref C))
    (hdb : (x == ("__debug__" : Str)) = false := by decide) : PE X (.Call (.Name x p) [] [] pos) (tMkV C sp tNil) := by
  constructor
  intro pins s σ H Q I h
  refine wpAny_Call_Name_kw (ld_glob I hg hm ?_ hdb)
  exact PySem.W.callWith_K0 I.kIn T.kC (make_err (us := []) (vs := []) T iC tI F1 hr hb hx I .nil h.1 h.2)
/-- x.m(..), x a class of the module, m a def of it -/
theorem pe_clsfn {f : Addr} {mc : Value} {m : Str} {t : TA} {E : XK} {pl : Sem Bool} {apos : Pos} (r : ClX.CRead X.K C mc) (at_ : PySem.W.findCls X.K (.ref C) mc m = some (.val (.ref f))) (F1 : FnOk X.prog X.w X.K X.mg X.base (L2.CX X.prog X.w) k f fd ps sp)
    (hr : Room k X.A) (hk : PySem.W.keepIn X.K (.ref f) = true) (hb : Binds X.K fd ps []) (hx : Passes (L2.CX X.prog X.w) X E) (hg : Gl X x) (hm : X.mg x = some (.ref C)) (ha : PA X (e :: es) t)
    (hc : eval (.Call (.Attribute (.Name x p) m apos) (e :: es) [] pos) X.env = (do
      let ov ← eval (.Name x p) X.env
      standAt apos.atName
      let (f, first) ← holding [ov] (getMethod ov m pl)
      callWith pos f first (backTo pos (starEach (e :: es) X.env)) (backToKw pos (keywordEach [] X.env))) := by rfl)
    (hdb : (x == ("__debug__" : Str)) = false := by decide) (he : starEach (e :: es) X.env = (false, eval e X.env) :: starEach es X.env := by rfl) (hpl : (backTo pos (starEach es X.env)).any (·.1) = false := by rfl) :
    PE X (.Call (.Attribute (.Name x p) m apos) (e :: es) [] pos) (tCall sp [] E t) := by
  constructor
  intro pins s σ H Q I h
  refine PySem.W.methodCall_KW (ld_glob I hg hm ?_ hdb) hc
  refine PySem.W.method_cls I.kIn r.ga (PySem.W.cls_value I.kIn r.rd at_ rfl ?_)
  have I' : Inv X pins σ H { s with toks := s.toks + 1 } := I.tok _
  refine PySem.W.callWith_K (first := []) (h₀ := X.base) I.ok.mod.kin hk (thn (ha.run pos pins _ σ H _ I' h) ?_) he hpl
  rintro us s1 ⟨vs, H1, I1, r1, q⟩
  exact ⟨I1.kIn, run_fn F1 hr hb .nil hx I1 r1 q⟩
end
/-- such an error stands at a -/
def ErrAt (K : PySem.W.Frag) (H : Hp) (a C : Addr) (v : V) : Prop := Ec K C ∧ ∃ dx, H a = some (exo a C (some dx)) ∧ H dx = some (exd dx [("value", v)])
theorem exo_inst {X : Cx} {a C dx : Addr} {fs : List (Str × V)} {pins : List (Addr × Obj)} {σ : L2.St} {H : Hp} {s : Shared} (I : Inv X pins σ H s) (ea : H a = some (exo a C (some dx))) (ed : H dx = some (exd dx fs)) :
    ∃ (oe od : Obj) (mA : Str → Option Value), PySem.W.InstAt s.heap a oe C (some od) ∧ (∀ f, RelO (fs.lookup f) (mA f)) ∧ ∀ f, PySem.W.lookIn f od = some (mA f) := by
  obtain ⟨t1, g⟩ := exo_at I.hok ea
  obtain ⟨mA, hns, hr⟩ := exd_at I.hok ed
  obtain ⟨od, ho, hl⟩ := lookIn_ns hns
  exact ⟨_, od, mA, ⟨g, rfl, rfl, ho⟩, hr, hl⟩
/-- error.value, the error held -/
def tXv (K : PySem.W.Frag) (n : Str) (te : TE) : TE := fun σ H Q => te σ H fun x H1 => ∃ (a C : Addr) (v : V), x = .ref a ∧ n = "value" ∧ ErrAt K H1 a C v ∧ Q v H1
theorem pe_xv {X : Cx} {e : Expr} {te : TE} {pos : Pos} {n : Str} (he : PE X e te) (hb : attributeBase e n X.env (eval e X.env) = eval e X.env := by rfl) : PE X (.Attribute e n pos) (tXv X.K n te) := by
  constructor
  intro pins s σ H Q I h
  refine attr_of hb (thn (he.run pins s σ H _ I h) ?_)
  rintro u s1 ⟨x, H1, I1, rx, a, C, v, ex, en, ⟨T, dx, ea, ed⟩, q⟩
  subst ex en
  obtain rfl : u = Value.ref a := rx
  obtain ⟨oe, od, mA, J, hr, hl⟩ := exo_inst I1 ea ed
  obtain ⟨u, hu, ru⟩ := RelO.some_of (v := v) (o := mA "value") (hr "value")
  exact HandSPX.exc_get I1.kIn J T.x.ga T.x.gg T.x.exC (PySem.W.findObj_own T.x.hdC T.v rfl (by rw [hl, hu])) (handed_of ru) ⟨v, H1, I1.tok _, ru, q⟩
/-- isinstance(error, c), the error held -/
def rIsV (K : PySem.W.Frag) : List V → Hp → VK → Prop := fun xs H Q => ∃ (a C : Addr) (v c : V) (cv : Value) (b : Bool), xs = [.ref a, c] ∧ ErrAt K H a C v ∧ ClsV c cv ∧ PySem.W.kitOne K (.ref C) cv = some b ∧ Q (.bl b) H
theorem call_isV {X : Cx} : CallR X (.builtin "isinstance") (rIsV X.K) := by
  rintro pins s σ H xs us Q I r ⟨a, C, v, c, cv, b, rfl, ⟨T, dx, ea, ed⟩, k, e, q⟩
  obtain ⟨u1, u2, rfl, r1, r2⟩ := vals2 r
  obtain rfl : u1 = Value.ref a := r1
  have e2 := k.eq r2
  subst e2
  obtain ⟨oe, od, mA, J, hr, hl⟩ := exo_inst I ea ed
  exact PySem.W.kia_one (PySem.W.kitx_exc T.cl T.x.ga T.x.gg T.x.exC T.ha T.hn T.ht T.hm) I.kIn J e (fun z => nomatch z) fun tk => ⟨.bl b, H, I.tok tk, rfl, q⟩
theorem pe_imp {X : Cx} {e : Expr} {t u : TE} (h : PE X e t) (i : ∀ σ H Q, u σ H Q → t σ H Q) : PE X e u := ⟨fun pins s σ H Q I q => h.run pins s σ H Q I (i σ H Q q)⟩
theorem ErrAt.keep {K : PySem.W.Frag} {H H' : Hp} (s : Same H H') {a C : Addr} {v : V} (h : ErrAt K H a C v) : ErrAt K H' a C v := by
  obtain ⟨T, dx, e1, e2⟩ := h
  exact ⟨T, dx, s _ _ e1, s _ _ e2⟩
/-- x(e): the error with the value of e -/
def tMade1 (K : PySem.W.Frag) (C : Addr) (te : TE) : TE := fun σ H Q => te σ H fun v H1 => Ec K C ∧ ∀ a H2, Same H1 H2 → ErrAt K H2 a C v → Q (.ref a) H2
theorem same_err {H : Hp} {a dx C : Addr} {fs : List (Str × V)} (na : H a = none) (nd : upd H a (exo a C none) dx = none) (ne : dx ≠ a) : Same H (upd (upd (upd H a (exo a C none)) dx (exd dx fs)) a (exo a C (some dx))) := fun b o e => by
  rw [upd_ne (ne_of_none e na), upd_ne, upd_ne (ne_of_none e na)]
  · exact e
  · intro z
    rw [z] at e
    rw [upd_ne ne, e] at nd
    cases nd
theorem pe_made1 {X : Cx} {k : Nat} {x : Str} {C fI : Addr} {e : Expr} {te : TE} {p pos : Pos} (T : Ex X.K X.mg x C fI) (F : InitOk X.prog X.w X.K X.mg X.base k fI) (hr : Room (k + 1) X.A)
    (hx : Passes (L2.CX X.prog X.w) X (fun _ _ _ => False)) (hg : Gl X x) (he : PE X e te) (hdb : (x == ("__debug__" : Str)) = false := by decide)
    (hst : starEach (e :: []) X.env = (false, eval e X.env) :: starEach [] X.env := by rfl) (hpl : (backTo pos (starEach [] X.env)).any (·.1) = false := by rfl) :
    PE X (.Call (.Name x p) [e] [] pos) (tMade1 X.K C te) := by
  obtain ⟨fd, b, F1⟩ := F.ok
  refine pe_imp (pe_mkv T.o T.i F.ty F1 hr b hx hg T.g (pa_cons (pe_mon he) pa_nil hst) hdb hst hpl) fun σ H Q h => ?_
  refine ⟨_, h, fun v H1 q => ⟨(by show 1 ≤ 1000; decide), fun a na => ⟨a, C, v, rfl, T.o, T.v, upd_same, fun dx nx ne => ⟨rfl, ?_⟩⟩⟩⟩
  exact q.2 a _ (same_err na nx ne) ⟨q.1, dx, upd_same, by rw [upd_ne ne, upd_same]⟩
/-- what __init__(self) of the errors without a value promises -/
def spInit0 (K : PySem.W.Frag) : Sp := fun vs H Q _ => ∃ (a C : Addr), vs = [.ref a] ∧ OexC K C ∧ PySem.W.findIn K (.ref C) "value" = some none ∧ H a = some (exo a C none) ∧
  ∀ dx, H dx = none → dx ≠ a → Q .non (upd (upd H dx (exd dx [("value", .non)])) a (exo a C (some dx)))
structure InitOk0 (P : Program) (w : World) (K : PySem.W.Frag) (mg : Str → Option Value) (base : Heap) (k : Nat) (fI : Addr) : Prop where
  ty : PySem.W.typeIn K (.ref fI) = some (.type "function")
  ok : ∃ fd, Binds K fd ["self"] [] ∧ FnOk P w K mg base (L2.CX P w) k fI fd ["self"] (spInit0 K)
def tMade0 (K : PySem.W.Frag) (C : Addr) : TE := fun _ H Q => Ec K C ∧ ∀ a H2, Same H H2 → ErrAt K H2 a C .non → Q (.ref a) H2
theorem pe_made0 {X : Cx} {k : Nat} {x : Str} {C fI : Addr} {p pos : Pos} (T : Ex X.K X.mg x C fI) (F : InitOk0 X.prog X.w X.K X.mg X.base k fI) (hr : Room (k + 1) X.A)
    (hx : Passes (L2.CX X.prog X.w) X (fun _ _ _ => False)) (hg : Gl X x) (hdb : (x == ("__debug__" : Str)) = false := by decide) : PE X (.Call (.Name x p) [] [] pos) (tMade0 X.K C) := by
  obtain ⟨fd, b, F1⟩ := F.ok
  refine pe_imp (pe_mkv0 T.o T.i F.ty F1 hr b hx hg T.g hdb) fun σ H Q h => ?_
  refine ⟨(by show 0 ≤ 1000; decide), fun a na => ⟨a, C, rfl, T.o, T.v, upd_same, fun dx nx ne => ⟨rfl, ?_⟩⟩⟩
  exact h.2 a _ (same_err na nx ne) ⟨h.1, dx, upd_same, by rw [upd_ne ne, upd_same]⟩
/-- a value is equal to itself -/
def rEqSame (K : PySem.W.Frag) : R2 := fun x y H Q => ∃ d : PyData, x = y ∧ Da K H x d ∧ Q (.bl true) H
theorem op_eqSame {X : Cx} (hu : X.A.units + 64 < cLine) : OpR X (compareOp .Eq) (rEqSame X.K) := by
  rintro pins s σ H x y v u Q I rx ry ⟨d, rfl, hd, q⟩
  have two : ∀ {a : Addr} {xs : List V} {ds : List PyData}, DaAll X.K H xs ds → ∀ (i : Nat) (y z : V), xs[i]? = some y → xs[i]? = some z → Al H 0 y z := fun {a xs ds} l i y z e1 e2 => by
    obtain ⟨_, _, h⟩ := l.get e1
    rw [e1] at e2
    cases e2
    exact .same h.plain
  have sc : ∀ z : V, scal z z = true → x = z → wpAny (model X.prog X.w) X.A (compareOp .Eq v u) (EP X pins σ Q) X.xe s := fun z hz e => by
    subst e
    refine op_eq pins s σ H x x v u Q I rx ry ⟨hz, ?_⟩
    rw [decide_eq_true rfl]
    exact q
  cases hd with
  | non => exact sc _ rfl rfl
  | bl b => exact sc _ rfl rfl
  | int i => exact sc _ rfl rfl
  | str y => exact sc _ rfl rfl
  | @lst a _ _ e l => exact op_eqL hu pins s σ H _ _ v u Q I rx ry ⟨⟨0, by decide, .lst e e rfl (two (a := a) l)⟩, q⟩
  | @tup a _ _ e l => exact op_eqL hu pins s σ H _ _ v u Q I rx ry ⟨⟨0, by decide, .tup e e rfl (two (a := a) l)⟩, q⟩
  | @dic a e => exact op_eq_dict (by omega) pins s σ H _ _ v u Q I rx ry ⟨a, a, [], rfl, rfl, e, e, List.nodup_nil, nofun, q⟩
end Fd

set_option maxRecDepth 100000
set_option maxHeartbeats 2000000
namespace Fd
open PySem PySem.Spec PyProof.Rows L2

/-! ### the same data twice -/
theorem Al.mono {H : Hp} : ∀ {n m : Nat} {x y : V}, Al H n x y → n ≤ m → Al H m x y
  | 0, m, x, y, h, _ => by
    obtain ⟨rfl, p⟩ := h
    exact .same p
  | n + 1, 0, _, _, _, l => absurd l (Nat.not_succ_le_zero n)
  | n + 1, m + 1, x, y, h, l => by
    rcases h with h | ⟨a, b, xs, ys, e1, e2, h, hl, q⟩
    · exact .inl h
    · exact .inr ⟨a, b, xs, ys, e1, e2, h, hl, fun i u v h1 h2 => (q i u v h1 h2).mono (Nat.le_of_succ_le_succ l)⟩
mutual
theorem Da.al {K : PySem.W.Frag} {H : Hp} : ∀ (d : PyData) (v w : V), Da K H v d → Da K H w d → d.hasDict = false → Al H d.depth v w
  | .none, _, _, h, h', _ => by
    cases h
    cases h'
    exact .same rfl
  | .bool _, _, _, h, h', _ => by
    cases h
    cases h'
    exact .same rfl
  | .int _, _, _, h, h', _ => by
    cases h
    cases h'
    exact .same rfl
  | .str _, _, _, h, h', _ => by
    cases h
    cases h'
    exact .same rfl
  | .list ds, _, _, h, h', n => by
    cases h with
    | lst e1 l1 =>
      cases h' with
      | lst e2 l2 =>
        rw [PyData.hasDict] at n
        rw [PyData.depth]
        exact .both (.lst e1 e2 (l1.len.trans l2.len.symm) (DaAll.al ds _ _ l1 l2 n))
  | .tuple ds, _, _, h, h', n => by
    cases h with
    | tup e1 l1 =>
      cases h' with
      | tup e2 l2 =>
        rw [PyData.hasDict] at n
        rw [PyData.depth]
        exact .both (.tup e1 e2 (l1.len.trans l2.len.symm) (DaAll.al ds _ _ l1 l2 n))
  | .dict _, _, _, _, _, n => by
    rw [PyData.hasDict] at n
    cases n
theorem DaAll.al {K : PySem.W.Frag} {H : Hp} : ∀ (ds : List PyData) (vs ws : List V), DaAll K H vs ds → DaAll K H ws ds → PyData.hasDictAll ds = false → ∀ (i : Nat) (u v : V), vs[i]? = some u → ws[i]? = some v → Al H (PyData.depthAll ds) u v
  | [], _, _, h, _, _, i, u, v, e, _ => by
    cases h
    simp at e
  | d :: ds, _, _, h, h', n, i, u, v, e1, e2 => by
    rw [PyData.hasDictAll, Bool.or_eq_false_iff] at n
    rw [PyData.depthAll]
    cases h with
    | cons a1 a2 =>
      cases h' with
      | cons b1 b2 =>
        cases i with
        | zero =>
          cases e1
          cases e2
          exact (Da.al d _ _ a1 b1 n.1).mono (Nat.le_max_left _ _)
        | succ i => exact (DaAll.al ds _ _ a2 b2 n.2 i u v (by simpa using e1) (by simpa using e2)).mono (Nat.le_max_right _ _)
end
/-- x == y, x != y of the same data -/
def rEqDa (K : PySem.W.Frag) : R2 := fun x y H Q => ∃ d : PyData, Da K H x d ∧ Da K H y d ∧ d.hasDict = false ∧ d.depth ≤ 50 ∧ Q (.bl true) H
def rNeDa (K : PySem.W.Frag) : R2 := fun x y H Q => ∃ d : PyData, Da K H x d ∧ Da K H y d ∧ d.hasDict = false ∧ d.depth ≤ 50 ∧ Q (.bl false) H
theorem op_eqDa {X : Cx} (hu : X.A.units + 64 < cLine) : OpR X (compareOp .Eq) (rEqDa X.K) := by
  rintro pins s σ H x y v u Q I rx ry ⟨d, hd, he, nd, dp, q⟩
  have sc : ∀ z : V, scal z z = true → x = z → y = z → wpAny (model X.prog X.w) X.A (compareOp .Eq v u) (EP X pins σ Q) X.xe s := fun z hz e1 e2 => by
    subst e1 e2
    refine op_eq pins s σ H y y v u Q I rx ry ⟨hz, ?_⟩
    rw [decide_eq_true rfl]
    exact q
  cases hd with
  | non => cases he; exact sc _ rfl rfl rfl
  | bl b => cases he; exact sc _ rfl rfl rfl
  | int i => cases he; exact sc _ rfl rfl rfl
  | str y => cases he; exact sc _ rfl rfl rfl
  | lst e1 l1 =>
    cases he with
    | lst e2 l2 =>
      rw [PyData.hasDict] at nd
      rw [PyData.depth] at dp
      exact op_eqL hu pins s σ H _ _ v u Q I rx ry ⟨⟨_, by omega, .lst e1 e2 (l1.len.trans l2.len.symm) (DaAll.al _ _ _ l1 l2 nd)⟩, q⟩
  | tup e1 l1 =>
    cases he with
    | tup e2 l2 =>
      rw [PyData.hasDict] at nd
      rw [PyData.depth] at dp
      exact op_eqL hu pins s σ H _ _ v u Q I rx ry ⟨⟨_, by omega, .tup e1 e2 (l1.len.trans l2.len.symm) (DaAll.al _ _ _ l1 l2 nd)⟩, q⟩
  | dic e =>
    rw [PyData.hasDict] at nd
    cases nd
theorem op_neDa {X : Cx} (hu : X.A.units + 64 < cLine) : OpR X (compareOp .NotEq) (rNeDa X.K) := by
  rintro pins s σ H x y v u Q I rx ry ⟨d, hd, he, nd, dp, q⟩
  have sc : ∀ z : V, scal z z = true → x = z → y = z → wpAny (model X.prog X.w) X.A (compareOp .NotEq v u) (EP X pins σ Q) X.xe s := fun z hz e1 e2 => by
    subst e1 e2
    refine op_ne pins s σ H y y v u Q I rx ry ⟨hz, ?_⟩
    rw [show (!decide (y = y)) = false by simp]
    exact q
  cases hd with
  | non => cases he; exact sc _ rfl rfl rfl
  | bl b => cases he; exact sc _ rfl rfl rfl
  | int i => cases he; exact sc _ rfl rfl rfl
  | str y => cases he; exact sc _ rfl rfl rfl
  | lst e1 l1 =>
    cases he with
    | lst e2 l2 =>
      rw [PyData.hasDict] at nd
      rw [PyData.depth] at dp
      exact op_neL hu pins s σ H _ _ v u Q I rx ry ⟨⟨_, by omega, .lst e1 e2 (l1.len.trans l2.len.symm) (DaAll.al _ _ _ l1 l2 nd)⟩, q⟩
  | tup e1 l1 =>
    cases he with
    | tup e2 l2 =>
      rw [PyData.hasDict] at nd
      rw [PyData.depth] at dp
      exact op_neL hu pins s σ H _ _ v u Q I rx ry ⟨⟨_, by omega, .tup e1 e2 (l1.len.trans l2.len.symm) (DaAll.al _ _ _ l1 l2 nd)⟩, q⟩
  | dic e =>
    rw [PyData.hasDict] at nd
    cases nd
end Fd

set_option maxRecDepth 100000
set_option maxHeartbeats 2000000
namespace Fd
open PySem PySem.Spec PyProof.Rows L2

/-! ### slices of tuples -/
theorem cut_whole {xs : List V} {lo hi : Option Int} (h : HT.sIx xs.length 0 lo = 0 ∧ HT.sIx xs.length xs.length hi = xs.length) : cutV xs lo hi = xs := by
  unfold cutV
  rw [h.1, h.2]
  simp
theorem slA {K : PySem.W.Frag} {H : Hp} {a : Addr} {xs : List V} {lo hi : Option Int} {Q : VK} (h : SqT K H a xs) (q : ∀ p H', Same H H' → SqT K H' p (cutV xs lo hi) → Q (.ref p) H') : rSlA K (.ref a) lo hi H Q :=
  ⟨a, xs, rfl, h, fun w => q a H (.refl H) (by rw [cut_whole w]; exact h), fun _ p np => q p _ (same_new np) (SqT.of upd_same)⟩
theorem slH {K : PySem.W.Frag} {H : Hp} {a : Addr} {xs : List V} {lo hi : Option Int} {Q : VK} (h : H a = some (.tup xs)) (q : ∀ p H', Same H H' → H' p = some (.tup (cutV xs lo hi)) → Q (.ref p) H') : rSlA K (.ref a) lo hi H Q :=
  ⟨a, xs, rfl, SqT.of h, fun w => q a H (.refl H) (by rw [cut_whole w]; exact h), fun _ p np => q p _ (same_new np) upd_same⟩
theorem drop_min {α : Type} (xs : List α) (i : Nat) : xs.drop (min i xs.length) = xs.drop i := by
  by_cases h : i ≤ xs.length
  · rw [Nat.min_eq_left h]
  · rw [Nat.min_eq_right (show xs.length ≤ i by omega), List.drop_eq_nil_of_le (Nat.le_refl _), List.drop_eq_nil_of_le (show xs.length ≤ i by omega)]
theorem cut_nat {xs : List V} {i j : Nat} : cutV xs (some (i : Int)) (some (j : Int)) = (xs.drop i).take (j - i) := by
  unfold cutV
  rw [HT.sIx_nat, HT.sIx_nat, drop_min]
  by_cases h : i ≤ xs.length
  · by_cases h2 : j ≤ xs.length
    · rw [Nat.min_eq_left h2, Nat.min_eq_left h]
    · rw [List.take_of_length_le (show (xs.drop i).length ≤ min j xs.length - min i xs.length by rw [List.length_drop]; omega), List.take_of_length_le (show (xs.drop i).length ≤ j - i by rw [List.length_drop]; omega)]
  · rw [List.drop_eq_nil_of_le (show xs.length ≤ i by omega), List.take_nil, List.take_nil]
theorem cut_from {xs : List V} {i : Nat} : cutV xs (some (i : Int)) none = xs.drop i := by
  unfold cutV
  rw [HT.sIx_nat, HT.sIx_none]
  by_cases h : i ≤ xs.length
  · rw [Nat.min_eq_left h, List.take_of_length_le (by rw [List.length_drop]; omega)]
  · rw [Nat.min_eq_right (by omega), List.drop_eq_nil_of_le (Nat.le_refl _), List.drop_eq_nil_of_le (show xs.length ≤ i by omega)]
    simp

theorem cut_to {xs : List V} {j : Nat} : cutV xs none (some (j : Int)) = xs.take j := by
  unfold cutV
  rw [HT.sIx_nat, HT.sIx_none, Nat.sub_zero]
  show xs.take _ = _
  by_cases h : j ≤ xs.length
  · rw [Nat.min_eq_left h]
  · rw [Nat.min_eq_right (show xs.length ≤ j by omega), List.take_length, List.take_of_length_le (show xs.length ≤ j by omega)]

/-! ### rules as they are read -/
inductive Itm where
  | put (xs : List Int)
  | plus (k : Int)
  | own (j k : Int)
inductive Wd where
  | sign (s : Int)
  | other
  | fin
structure Ru where
  stand : Int
  word : Wd
  items : List Itm
  next : Option Int
def Itm.d : Itm → PyData
  | .put xs => .tuple [.str "put", .tuple (xs.map PyData.int)]
  | .plus k => .tuple [.str "plus", .int k]
  | .own j k => .tuple [.str "own", .int j, .int k]
def Wd.d : Wd → PyData
  | .sign s => .int s
  | .other => .str "other"
  | .fin => .str "end"
def nextD : Option Int → PyData
  | none => .none
  | some n => .int n
def Ru.d (r : Ru) : PyData := .tuple [.int r.stand, r.word.d, .tuple (r.items.map Itm.d), nextD r.next]
/-- the item that begins the row, and what is left -/
def itemOf : List Int → Option (Itm × List Int)
  | 0 :: n :: r => if n.toNat ≤ r.length then some (.put (r.take n.toNat), r.drop n.toNat) else none
  | 1 :: k :: r => some (.plus k, r)
  | 2 :: j :: k :: r => some (.own j k, r)
  | _ => none
def itemsOf : Nat → List Int → Option (List Itm × List Int)
  | 0, r => some ([], r)
  | n + 1, r => (itemOf r).bind fun p => (itemsOf n p.2).map fun q => (p.1 :: q.1, q.2)
def wordOf : List Int → Option (Wd × List Int)
  | 2 :: r => some (.fin, r)
  | 1 :: r => some (.other, r)
  | 0 :: s :: r => some (.sign s, r)
  | _ => none
def itemsAt : List Int → Option (List Itm × List Int)
  | [] => none
  | n :: r => itemsOf n.toNat r
def ruleEnd (s : Int) (w : Wd) (its : List Itm) (r : List Int) : Option (Ru × List Int) := match w, r with
  | .fin, r => some (⟨s, .fin, its, none⟩, r)
  | _, [] => none
  | w, f :: r3 => some (⟨s, w, its, some f⟩, r3)
def ruleOf : List Int → Option (Ru × List Int)
  | s :: r => (wordOf r).bind fun p => (itemsAt p.2).bind fun q => ruleEnd s p.1 q.1 q.2
  | [] => none
/-- all rules, and the tail; n: more than enough -/
def rulesOf : Nat → List Int → List Ru × List Int
  | 0, r => ([], r)
  | n + 1, r => match ruleOf r with
    | none => ([], r)
    | some (u, r2) => let q := rulesOf n r2; (u :: q.1, q.2)
theorem itemOf_one (x : Int) : itemOf [x] = none := by
  unfold itemOf
  split
  · rename_i h
    simp at h
  · rename_i h
    simp at h
  · rename_i h
    simp at h
  · rfl
theorem itemOf_small {r : List Int} (h : r.length ≤ 1) : itemOf r = none := by
  match r, h with
  | [], _ => rfl
  | [x], _ => exact itemOf_one x
theorem itemOf_else {x y : Int} {r : List Int} (h0 : x ≠ 0) (h1 : x ≠ 1) (h2 : x = 2 → r = []) : itemOf (x :: y :: r) = none := by
  unfold itemOf
  split
  · rename_i h
    injection h with e _
    exact absurd e h0
  · rename_i h
    injection h with e _
    exact absurd e h1
  · rename_i h
    injection h with e e2
    injection e2 with _ e3
    rw [h2 e] at e3
    cases e3
  · rfl
theorem wordOf_else {x : Int} {r : List Int} (h2 : x ≠ 2) (h1 : x ≠ 1) (h0 : x = 0 → r = []) : wordOf (x :: r) = none := by
  unfold wordOf
  split
  · rename_i h
    injection h with e _
    exact absurd e h2
  · rename_i h
    injection h with e _
    exact absurd e h1
  · rename_i h
    injection h with e e2
    rw [h0 e] at e2
    cases e2
  · rfl
theorem itemOf_suffix {r r' : List Int} {it : Itm} (h : itemOf r = some (it, r')) : r' <:+ r := by
  unfold itemOf at h
  split at h
  · split at h
    · cases h
      exact (List.drop_suffix _ _).trans ((List.suffix_cons _ _).trans (List.suffix_cons _ _))
    · cases h
  · cases h
    exact (List.suffix_cons _ _).trans (List.suffix_cons _ _)
  · cases h
    exact ((List.suffix_cons _ _).trans (List.suffix_cons _ _)).trans (List.suffix_cons _ _)
  · cases h
theorem itemsOf_suffix : ∀ {n : Nat} {r r' : List Int} {its : List Itm}, itemsOf n r = some (its, r') → r' <:+ r
  | 0, r, r', its, h => by
    cases h
    exact List.suffix_refl _
  | n + 1, r, r', its, h => by
    unfold itemsOf at h
    cases e : itemOf r with
    | none => rw [e] at h; cases h
    | some p =>
      rw [e] at h
      cases e2 : itemsOf n p.2 with
      | none => rw [Option.bind_some, e2] at h; cases h
      | some q =>
        rw [Option.bind_some, e2] at h
        cases h
        exact (itemsOf_suffix e2).trans (itemOf_suffix e)
theorem itemsOf_step {n : Nat} {r r' : List Int} {it : Itm} (e : itemOf r = some (it, r')) : itemsOf (n + 1) r = (itemsOf n r').map fun q => (it :: q.1, q.2) := by
  show (itemOf r).bind _ = _
  rw [e]
  rfl
theorem itemsOf_stop {n : Nat} {r : List Int} (e : itemOf r = none) : itemsOf (n + 1) r = none := by
  show (itemOf r).bind _ = _
  rw [e]
  rfl
theorem itemsAt_suffix {r r' : List Int} {its : List Itm} (h : itemsAt r = some (its, r')) : r' <:+ r := by
  cases r with
  | nil => cases h
  | cons n r => exact (itemsOf_suffix (n := n.toNat) h).trans (List.suffix_cons _ _)
theorem wordOf_suffix {r r' : List Int} {w : Wd} (h : wordOf r = some (w, r')) : r' <:+ r := by
  unfold wordOf at h
  split at h
  · cases h
    exact List.suffix_cons _ _
  · cases h
    exact List.suffix_cons _ _
  · cases h
    exact (List.suffix_cons _ _).trans (List.suffix_cons _ _)
  · cases h
theorem suf_drop {r bs : List Int} (h : r <:+ bs) : bs.drop (bs.length - r.length) = r := (List.suffix_iff_eq_drop.mp h).symm
/-! ### data without lists does not lie where a list lies -/
mutual
def noL : PyData → Bool
  | .none => true
  | .bool _ => true
  | .int _ => true
  | .str _ => true
  | .list _ => false
  | .dict _ => false
  | .tuple ds => noLs ds
def noLs : List PyData → Bool
  | [] => true
  | d :: ds => noL d && noLs ds
end
mutual
theorem Da.offL {K : PySem.W.Frag} {H : Hp} {p : Addr} {zs : List V} (hp : H p = some (.lst zs)) : ∀ (d : PyData) (v : V), Da K H v d → noL d = true → Da K (off p H) v d
  | .none, _, h, _ => by cases h; exact .non
  | .bool _, _, h, _ => by cases h; exact .bl _
  | .int _, _, h, _ => by cases h; exact .int _
  | .str _, _, h, _ => by cases h; exact .str _
  | .list ds, _, _, n => by rw [noL] at n; cases n
  | .dict ds, _, _, n => by rw [noL] at n; cases n
  | .tuple ds, _, h, n => by
    rw [noL] at n
    cases h with
    | @tup a _ _ e l =>
      refine .tup (off_of (fun z => ?_) e) (DaAll.offL hp ds _ l n)
      rw [z, hp] at e
      cases e
theorem DaAll.offL {K : PySem.W.Frag} {H : Hp} {p : Addr} {zs : List V} (hp : H p = some (.lst zs)) : ∀ (ds : List PyData) (vs : List V), DaAll K H vs ds → noLs ds = true → DaAll K (off p H) vs ds
  | [], _, h, _ => by cases h; exact .nil
  | d :: ds, _, h, n => by
    rw [noLs, Bool.and_eq_true] at n
    cases h with
    | cons a b => exact .cons (Da.offL hp d _ a n.1) (DaAll.offL hp ds _ b n.2)
end
theorem noLs_ints : ∀ ns : List Int, noLs (ns.map PyData.int) = true
  | [] => by rw [List.map_nil, noLs]
  | n :: ns => by rw [List.map_cons, noLs, noLs_ints ns, noL]; rfl
theorem noL_it (i : Itm) : noL i.d = true := by
  cases i with
  | put xs =>
    show noL (.tuple [.str "put", .tuple (xs.map PyData.int)]) = true
    rw [noL, noLs, noLs, noLs, noL, noL, noLs_ints]
    rfl
  | plus k =>
    show noL (.tuple [.str "plus", .int k]) = true
    rw [noL, noLs, noLs, noLs, noL, noL]
    rfl
  | own j k =>
    show noL (.tuple [.str "own", .int j, .int k]) = true
    rw [noL, noLs, noLs, noLs, noLs, noL, noL, noL]
    rfl
theorem off_upd {p : Addr} {H : Hp} {o : HO} : Same (off p H) (off p (upd H p o)) := fun b x e => by
  have h : b ≠ p := fun z => by
    rw [z, off_on] at e
    cases e
  rw [off_ne h] at e ⊢
  rwa [upd_ne h]
theorem DaAll.snoc {K : PySem.W.Frag} {H : Hp} : ∀ {vs : List V} {ds : List PyData} {v : V} {d : PyData}, DaAll K H vs ds → Da K H v d → DaAll K H (vs ++ [v]) (ds ++ [d])
  | _, _, _, _, .nil, h => .cons h .nil
  | _, _, _, _, .cons a b, h => .cons a (DaAll.snoc b h)
theorem noLs_its : ∀ is : List Itm, noLs (is.map Itm.d) = true
  | [] => by rw [List.map_nil, noLs]
  | i :: is => by rw [List.map_cons, noLs, noLs_its is, noL_it]; rfl
theorem noL_ru (u : Ru) : noL u.d = true := by
  have hw : noL u.word.d = true := by
    cases u.word with
    | sign s => show noL (.int s) = true; rw [noL]
    | other => show noL (.str "other") = true; rw [noL]
    | fin => show noL (.str "end") = true; rw [noL]
  have hn : noL (nextD u.next) = true := by
    cases u.next with
    | none => show noL .none = true; rw [noL]
    | some f => show noL (.int f) = true; rw [noL]
  show noL (.tuple [.int u.stand, u.word.d, .tuple (u.items.map Itm.d), nextD u.next]) = true
  rw [noL, noLs, noLs, noLs, noLs, noLs, hw, hn, noL, noL, noLs_its]
  rfl
theorem ruleOf_suffix {s : Int} {r r' : List Int} {u : Ru} (h : ruleOf (s :: r) = some (u, r')) : r' <:+ r := by
  have h : (wordOf r).bind (fun p => (itemsAt p.2).bind fun q => ruleEnd s p.1 q.1 q.2) = some (u, r') := h
  obtain ⟨⟨w, r2⟩, e1, h⟩ := Option.bind_eq_some_iff.mp h
  obtain ⟨⟨its, r3⟩, e2, h⟩ := Option.bind_eq_some_iff.mp h
  have h23 := (itemsAt_suffix e2).trans (wordOf_suffix e1)
  cases w with
  | fin =>
    cases h
    exact h23
  | sign s0 =>
    cases r3 with
    | nil => cases h
    | cons f r4 =>
      cases h
      exact (List.suffix_cons _ _).trans h23
  | other =>
    cases r3 with
    | nil => cases h
    | cons f r4 =>
      cases h
      exact (List.suffix_cons _ _).trans h23
theorem ruleOf_less {r r' : List Int} {u : Ru} (h : ruleOf r = some (u, r')) : r' <:+ r ∧ r'.length < r.length := by
  cases r with
  | nil => cases h
  | cons s r =>
    have z := ruleOf_suffix h
    exact ⟨z.trans (List.suffix_cons _ _), Nat.lt_succ_of_le z.length_le⟩
theorem rulesOf_stop {n : Nat} {r : List Int} (h : ruleOf r = none) : rulesOf n r = ([], r) := by
  cases n with
  | zero => rfl
  | succ n =>
    show (match ruleOf r with | none => ([], r) | some (u, r2) => _) = _
    rw [h]
theorem rulesOf_step {n : Nat} {r r' : List Int} {u : Ru} (h : ruleOf r = some (u, r')) : rulesOf (n + 1) r = (u :: (rulesOf n r').1, (rulesOf n r').2) := by
  show (match ruleOf r with | none => ([], r) | some (u, r2) => _) = _
  rw [h]
end Fd

set_option maxRecDepth 100000
set_option maxHeartbeats 2000000
namespace Va
open PySem PySem.Spec PyProof.Rows L2 Fd

/-! ### data as it is seen without addresses -/
inductive D where
  | non
  | bl (b : Bool)
  | int (i : Int)
  | str (x : Str)
  | con (v : V)
  | lst (ds : List D)
  | tup (ds : List D)
  | ins (C : Addr) (ns : List Str) (ds : List D)
  | dic (a : Addr)
  | dck (ks : List Key) (ds : List D)
  | dct (ks : List (List Key)) (ds : List D)
abbrev FP := Addr → HO → Prop
mutual
inductive Dv (P : FP) : V → D → Prop
  | non : Dv P .non .non
  | bl (b : Bool) : Dv P (.bl b) (.bl b)
  | int (i : Int) : Dv P (.int i) (.int i)
  | str (x : Str) : Dv P (.str x) (.str x)
  | con (v : V) : Dv P v (.con v)
  | lst {a : Addr} {xs : List V} {ds : List D} : P a (.lst xs) → DvAll P xs ds → Dv P (.ref a) (.lst ds)
  | tup {a : Addr} {xs : List V} {ds : List D} : P a (.tup xs) → DvAll P xs ds → Dv P (.ref a) (.tup ds)
  | ins {a C dx : Addr} {ns : List Str} {xs : List V} {ds : List D} : P a (.ins C dx (ns.zip xs)) → P dx (.own a) → ns.length = xs.length → DvAll P xs ds → Dv P (.ref a) (.ins C ns ds)
  | dic {a : Addr} : P a (.dK []) → Dv P (.ref a) (.dic a)
  | dck {a : Addr} {ks : List Key} {xs : List V} {ds : List D} : P a (.dK (ks.zip xs)) → ks.length = xs.length → DvAll P xs ds → Dv P (.ref a) (.dck ks ds)
  | dct {a : Addr} {ks : List (List Key)} {xs : List V} {ds : List D} : P a (.dT (ks.zip xs)) → ks.length = xs.length → DvAll P xs ds → Dv P (.ref a) (.dct ks ds)
inductive DvAll (P : FP) : List V → List D → Prop
  | nil : DvAll P [] []
  | cons {v : V} {vs : List V} {d : D} {ds : List D} : Dv P v d → DvAll P vs ds → DvAll P (v :: vs) (d :: ds)
end
abbrev Le (P P' : FP) : Prop := ∀ a o, P a o → P' a o
mutual
theorem Dv.keep {P P' : FP} (s : Le P P') : ∀ (d : D) (v : V), Dv P v d → Dv P' v d
  | .non, _, h => by cases h; exact .non
  | .bl _, _, h => by cases h; exact .bl _
  | .int _, _, h => by cases h; exact .int _
  | .str _, _, h => by cases h; exact .str _
  | .con _, _, h => by cases h; exact .con _
  | .lst ds, _, h => by
    cases h with
    | lst e a => exact .lst (s _ _ e) (DvAll.keep s ds _ a)
  | .tup ds, _, h => by
    cases h with
    | tup e a => exact .tup (s _ _ e) (DvAll.keep s ds _ a)
  | .ins _ _ ds, _, h => by
    cases h with
    | ins e1 e2 l a => exact .ins (s _ _ e1) (s _ _ e2) l (DvAll.keep s ds _ a)
  | .dic _, _, h => by
    cases h with
    | dic e => exact .dic (s _ _ e)
  | .dck _ ds, _, h => by
    cases h with
    | dck e l a => exact .dck (s _ _ e) l (DvAll.keep s ds _ a)
  | .dct _ ds, _, h => by
    cases h with
    | dct e l a => exact .dct (s _ _ e) l (DvAll.keep s ds _ a)
theorem DvAll.keep {P P' : FP} (s : Le P P') : ∀ (ds : List D) (vs : List V), DvAll P vs ds → DvAll P' vs ds
  | [], _, h => by cases h; exact .nil
  | d :: ds, _, h => by
    cases h with
    | cons a b => exact .cons (Dv.keep s d _ a) (DvAll.keep s ds _ b)
end
section
variable {P P' : FP}
theorem Dv.k {v : V} {d : D} (h : Dv P v d) (s : Le P P') : Dv P' v d := Dv.keep s d v h
theorem DvAll.k {vs : List V} {ds : List D} (h : DvAll P vs ds) (s : Le P P') : DvAll P' vs ds := DvAll.keep s ds vs h
theorem DvAll.len : ∀ {vs : List V} {ds : List D}, DvAll P vs ds → vs.length = ds.length
  | _, _, .nil => rfl
  | _, _, .cons _ t => by rw [List.length_cons, List.length_cons, DvAll.len t]
theorem DvAll.get : ∀ {vs : List V} {ds : List D} {i : Nat} {d : D}, DvAll P vs ds → ds[i]? = some d → ∃ v, vs[i]? = some v ∧ Dv P v d
  | _, _, _, _, .nil, e => by simp at e
  | _, _, 0, _, .cons h _, e => by simp at e; subst e; exact ⟨_, rfl, h⟩
  | _, _, i + 1, d, .cons _ t, e => by
    obtain ⟨v, h1, h2⟩ := DvAll.get (i := i) (d := d) t (by simpa using e)
    exact ⟨v, by simpa using h1, h2⟩
theorem DvAll.app : ∀ {vs us : List V} {ds es : List D}, DvAll P vs ds → DvAll P us es → DvAll P (vs ++ us) (ds ++ es)
  | _, _, _, _, .nil, h => h
  | _, _, _, _, .cons a b, h => .cons a (DvAll.app b h)
theorem DvAll.take : ∀ {vs : List V} {ds : List D} (n : Nat), DvAll P vs ds → DvAll P (vs.take n) (ds.take n)
  | _, _, 0, _ => .nil
  | _, _, n + 1, .nil => .nil
  | _, _, n + 1, .cons a b => .cons a (DvAll.take n b)
theorem DvAll.drop : ∀ {vs : List V} {ds : List D} (n : Nat), DvAll P vs ds → DvAll P (vs.drop n) (ds.drop n)
  | _, _, 0, h => h
  | _, _, n + 1, .nil => .nil
  | _, _, n + 1, .cons a b => DvAll.drop n b
theorem DvAll.set : ∀ {vs : List V} {ds : List D} (n : Nat) {v : V} {d : D}, DvAll P vs ds → Dv P v d → DvAll P (vs.set n v) (ds.set n d)
  | _, _, _, _, _, .nil, _ => .nil
  | _, _, 0, _, _, .cons a b, h => .cons h b
  | _, _, n + 1, _, _, .cons a b, h => .cons a (DvAll.set n b h)
theorem DvAll.ints : ∀ ns : List Int, DvAll P (ns.map V.int) (ns.map D.int)
  | [] => .nil
  | n :: ns => .cons (.int n) (DvAll.ints ns)
theorem DvAll.rep {v : V} {d : D} (h : Dv P v d) : ∀ n, DvAll P (List.replicate n v) (List.replicate n d)
  | 0 => .nil
  | n + 1 => .cons h (DvAll.rep h n)
end

/-! ### what a frame owns: objects that no other thing has, by number -/
inductive Ob where
  | lst (ds : List D)
  | ins (C : Addr) (ns : List Str) (ds : List D)
  | dck (ks : List Key) (ds : List D)
  | dct (ks : List (List Key)) (ds : List D)
  /-- one whose address is known: other things may point to it by .con (.ref a) -/
  | pin (a : Addr) (ob : Ob)
abbrev Own := List (Option Ob)
inductive W where
  | dat (d : D)
  | own (k : Nat)
structure DS where
  slots : List (Option W)
  own : Own
/-- what an address that is owned is -/
def Lv (O : List Addr) (S : Own) (a : Addr) : Prop := ∃ (k : Nat) (ob : Ob), O[k]? = some a ∧ S[k]? = some (some ob)
/-- what never changes -/
def Fz (O : List Addr) (S : Own) (H : Hp) : FP := fun a o => H a = some o ∧ ¬ Lv O S a
def ObR (P : FP) (H : Hp) (a : Addr) : Ob → Prop
  | .lst ds => ∃ xs, H a = some (.lst xs) ∧ DvAll P xs ds
  | .ins C ns ds => ∃ dx xs, H a = some (.ins C dx (ns.zip xs)) ∧ P dx (.own a) ∧ ns.length = xs.length ∧ DvAll P xs ds
  | .dck ks ds => ∃ xs, H a = some (.dK (ks.zip xs)) ∧ ks.length = xs.length ∧ DvAll P xs ds
  | .dct ks ds => ∃ xs, H a = some (.dT (ks.zip xs)) ∧ ks.length = xs.length ∧ DvAll P xs ds
  | .pin b ob => a = b ∧ ObR P H a ob
def obD : Ob → D
  | .lst ds => .lst ds
  | .ins C ns ds => .ins C ns ds
  | .dck ks ds => .dck ks ds
  | .dct ks ds => .dct ks ds
  | .pin _ ob => obD ob
/-- the four kinds of what is owned -/
theorem ObR.kind {P : FP} {H : Hp} {a : Addr} : ∀ {ob : Ob}, ObR P H a ob → (∃ ds xs, obD ob = .lst ds ∧ H a = some (.lst xs) ∧ DvAll P xs ds) ∨
    (∃ C ns ds dx xs, obD ob = .ins C ns ds ∧ H a = some (.ins C dx (ns.zip xs)) ∧ P dx (.own a) ∧ ns.length = xs.length ∧ DvAll P xs ds) ∨
    (∃ ks ds xs, obD ob = .dck ks ds ∧ H a = some (.dK (ks.zip xs)) ∧ ks.length = xs.length ∧ DvAll P xs ds) ∨
    (∃ ks ds xs, obD ob = .dct ks ds ∧ H a = some (.dT (ks.zip xs)) ∧ ks.length = xs.length ∧ DvAll P xs ds)
  | .lst ds, ⟨xs, h1, h2⟩ => .inl ⟨ds, xs, rfl, h1, h2⟩
  | .ins C ns ds, ⟨dx, xs, h1, h2, h3, h4⟩ => .inr (.inl ⟨C, ns, ds, dx, xs, rfl, h1, h2, h3, h4⟩)
  | .dck ks ds, ⟨xs, h1, h2, h3⟩ => .inr (.inr (.inl ⟨ks, ds, xs, rfl, h1, h2, h3⟩))
  | .dct ks ds, ⟨xs, h1, h2, h3⟩ => .inr (.inr (.inr ⟨ks, ds, xs, rfl, h1, h2, h3⟩))
  | .pin _ ob, ⟨_, h⟩ => ObR.kind (ob := ob) h
theorem obD_tup : ∀ (ob : Ob) (ds : List D), obD ob ≠ .tup ds
  | .lst _, _ => fun z => nomatch z
  | .ins _ _ _, _ => fun z => nomatch z
  | .dck _ _, _ => fun z => nomatch z
  | .dct _ _, _ => fun z => nomatch z
  | .pin _ ob, ds => obD_tup ob ds
/-- what no owned thing is -/
theorem ObR.no {P : FP} {H : Hp} {a : Addr} {ob : Ob} {o : HO} (h : ObR P H a ob) (e : H a = some o) (h1 : ∀ xs, o ≠ .lst xs) (h2 : ∀ C dx fs, o ≠ .ins C dx fs) (h3 : ∀ k, o ≠ .dK k) (h4 : ∀ k, o ≠ .dT k) : False := by
  rcases h.kind with ⟨_, _, _, z, _⟩ | ⟨_, _, _, _, _, _, z, _⟩ | ⟨_, _, _, _, z, _⟩ | ⟨_, _, _, _, z, _⟩
  · exact h1 _ (Option.some.inj (e.symm.trans z))
  · exact h2 _ _ _ (Option.some.inj (e.symm.trans z))
  · exact h3 _ (Option.some.inj (e.symm.trans z))
  · exact h4 _ (Option.some.inj (e.symm.trans z))
structure StoreOk (O : List Addr) (H : Hp) (S : Own) : Prop where
  len : O.length = S.length
  nod : O.Nodup
  there : ∀ a ∈ O, ∃ o, H a = some o
  ob : ∀ (k : Nat) (ob : Ob), S[k]? = some (some ob) → ∃ a : Addr, O[k]? = some a ∧ ObR (Fz O S H) H a ob
def WR (O : List Addr) (S : Own) (H : Hp) (v : V) : W → Prop
  | .dat d => Dv (Fz O S H) v d
  | .own k => ∃ a : Addr, O[k]? = some a ∧ v = .ref a
structure Ext (O : List Addr) (S : Own) (H : Hp) (O' : List Addr) (S' : Own) (H' : Hp) : Prop where
  pre : ∃ R, O' = O ++ R
  fz : Le (Fz O S H) (Fz O' S' H')
theorem Ext.refl {O : List Addr} {S : Own} {H : Hp} : Ext O S H O S H := ⟨⟨[], by simp⟩, fun _ _ h => h⟩
theorem Ext.trans {O O1 O2 : List Addr} {S S1 S2 : Own} {H H1 H2 : Hp} (a : Ext O S H O1 S1 H1) (b : Ext O1 S1 H1 O2 S2 H2) : Ext O S H O2 S2 H2 := by
  obtain ⟨R, e⟩ := a.pre
  obtain ⟨R2, e2⟩ := b.pre
  exact ⟨⟨R ++ R2, by rw [e2, e, List.append_assoc]⟩, fun x o h => b.fz x o (a.fz x o h)⟩
theorem Ext.get {O O' : List Addr} {S S' : Own} {H H' : Hp} (a : Ext O S H O' S' H') {k : Nat} {x : Addr} (e : O[k]? = some x) : O'[k]? = some x := by
  obtain ⟨R, rfl⟩ := a.pre
  rw [List.getElem?_append_left (List.getElem?_eq_some_iff.mp e).1]
  exact e
theorem WR.ext {O O' : List Addr} {S S' : Own} {H H' : Hp} {v : V} : ∀ {w : W}, WR O S H v w → Ext O S H O' S' H' → WR O' S' H' v w
  | .dat d, h, e => Dv.keep e.fz d v h
  | .own k, ⟨a, h1, h2⟩, e => ⟨a, e.get h1, h2⟩
/-- the entry of a def: what was owned there, where -/
structure Base where
  O : List Addr
  S : Own
  H : Hp
structure Rel (B : Base) (O : List Addr) (σ : L2.St) (H : Hp) (δ : DS) : Prop where
  st : StoreOk O H δ.own
  bs : Ext B.O B.S B.H O δ.own H
  sl : ∀ (i : Nat) (w : W), δ.slots[i]? = some (some w) → ∃ v : V, σ[i]? = some (some v) ∧ WR O δ.own H v w
  ln : δ.slots.length = σ.length
theorem Rel.to {B : Base} {O O' : List Addr} {σ : L2.St} {H H' : Hp} {δ : DS} {S' : Own} (r : Rel B O σ H δ) (hS : StoreOk O' H' S') (e : Ext O δ.own H O' S' H') : Rel B O' σ H' ⟨δ.slots, S'⟩ :=
  ⟨hS, r.bs.trans e, fun i w h => by
    obtain ⟨v, h1, h2⟩ := r.sl i w h
    exact ⟨v, h1, h2.ext e⟩, r.ln⟩
/-- a slot is set -/
theorem Rel.set {B : Base} {O : List Addr} {σ : L2.St} {H : Hp} {δ : DS} {v : V} {w : W} (r : Rel B O σ H δ) (i : Nat) (h : WR O δ.own H v w) : Rel B O (σ.set i (some v)) H ⟨δ.slots.set i (some w), δ.own⟩ := by
  refine ⟨r.st, r.bs, fun j u e => ?_, by rw [List.length_set, List.length_set]; exact r.ln⟩
  have e : (δ.slots.set i (some w))[j]? = some (some u) := e
  by_cases c : j = i
  · subst c
    have hj : j < δ.slots.length := by
      have z := (List.getElem?_eq_some_iff.mp e).1
      rwa [List.length_set] at z
    rw [List.getElem?_set_self hj] at e
    injection e with e
    injection e with e
    subst e
    exact ⟨v, List.getElem?_set_self (by rw [← r.ln]; exact hj), h⟩
  · rw [List.getElem?_set_ne (Ne.symm c)] at e
    obtain ⟨x, h1, h2⟩ := r.sl j u e
    exact ⟨x, by rw [List.getElem?_set_ne (Ne.symm c)]; exact h1, h2⟩

/-! ### changes of the heap -/
theorem not_lv_new {O : List Addr} {H : Hp} {S : Own} (h : StoreOk O H S) {p : Addr} (n : H p = none) : p ∉ O := fun z => by
  obtain ⟨o, e⟩ := h.there p z
  rw [n] at e
  cases e
theorem Lv.mem {O : List Addr} {S : Own} {a : Addr} (h : Lv O S a) : a ∈ O := by
  obtain ⟨k, _, e, _⟩ := h
  exact List.mem_of_getElem? e
/-- a new thing that is not owned -/
theorem ext_new {O : List Addr} {H : Hp} {S : Own} {p : Addr} {o : HO} (n : H p = none) : Ext O S H O S (upd H p o) :=
  ⟨⟨[], by simp⟩, fun a u h => ⟨by rw [upd_ne (ne_of_none h.1 n)]; exact h.1, h.2⟩⟩
theorem ObR.keep {P P' : FP} {H H' : Hp} {a : Addr} (s : Le P P') (e : H' a = H a) : ∀ {ob : Ob}, ObR P H a ob → ObR P' H' a ob
  | .lst _, ⟨xs, h1, h2⟩ => ⟨xs, by rw [e]; exact h1, h2.k s⟩
  | .ins _ _ _, ⟨dx, xs, h1, h2, h3, h4⟩ => ⟨dx, xs, by rw [e]; exact h1, s _ _ h2, h3, h4.k s⟩
  | .dck _ _, ⟨xs, h1, h2, h3⟩ => ⟨xs, by rw [e]; exact h1, h2, h3.k s⟩
  | .dct _ _, ⟨xs, h1, h2, h3⟩ => ⟨xs, by rw [e]; exact h1, h2, h3.k s⟩
  | .pin _ ob, ⟨h1, h2⟩ => ⟨h1, ObR.keep s e (ob := ob) h2⟩
theorem ObR.kept {P P' : FP} {H H' : Hp} {a : Addr} (s : Le P P') (kp : ∀ o, H a = some o → H' a = some o) : ∀ {ob : Ob}, ObR P H a ob → ObR P' H' a ob
  | .lst _, ⟨xs, h1, h2⟩ => ⟨xs, kp _ h1, h2.k s⟩
  | .ins _ _ _, ⟨dx, xs, h1, h2, h3, h4⟩ => ⟨dx, xs, kp _ h1, s _ _ h2, h3, h4.k s⟩
  | .dck _ _, ⟨xs, h1, h2, h3⟩ => ⟨xs, kp _ h1, h2, h3.k s⟩
  | .dct _ _, ⟨xs, h1, h2, h3⟩ => ⟨xs, kp _ h1, h2, h3.k s⟩
  | .pin _ ob, ⟨h1, h2⟩ => ⟨h1, ObR.kept s kp (ob := ob) h2⟩
theorem store_new {O : List Addr} {H : Hp} {S : Own} {p : Addr} {o : HO} (h : StoreOk O H S) (n : H p = none) : StoreOk O (upd H p o) S := by
  refine ⟨h.len, h.nod, fun a ha => ?_, fun k ob e => ?_⟩
  · obtain ⟨u, z⟩ := h.there a ha
    exact ⟨u, by rw [upd_ne (ne_of_none z n)]; exact z⟩
  · obtain ⟨a, h1, h2⟩ := h.ob k ob e
    refine ⟨a, h1, h2.keep (ext_new n).fz ?_⟩
    obtain ⟨u, z⟩ := h.there a (List.mem_of_getElem? h1)
    rw [upd_ne (ne_of_none z n)]
theorem nodup_get {α : Type} : ∀ {l : List α}, l.Nodup → ∀ {i j : Nat} {x : α}, l[i]? = some x → l[j]? = some x → i = j
  | [], _, i, j, x, h, _ => by simp at h
  | a :: l, nd, i, j, x, hi, hj => by
    rw [List.nodup_cons] at nd
    cases i with
    | zero =>
      cases j with
      | zero => rfl
      | succ j =>
        have e : a = x := Option.some.inj hi
        rw [e] at nd
        exact absurd (List.mem_of_getElem? (show l[j]? = some x from hj)) nd.1
    | succ i =>
      cases j with
      | zero =>
        have e : a = x := Option.some.inj hj
        rw [e] at nd
        exact absurd (List.mem_of_getElem? (show l[i]? = some x from hi)) nd.1
      | succ j => rw [nodup_get nd.2 (show l[i]? = some x from hi) (show l[j]? = some x from hj)]
/-- an owned thing changes -/
theorem own_set {O : List Addr} {H : Hp} {S : Own} {k : Nat} {a : Addr} {ob ob' : Ob} {o : HO} (h : StoreOk O H S) (ha : O[k]? = some a) (hs : S[k]? = some (some ob)) (q : ObR (Fz O S H) (upd H a o) a ob') :
    StoreOk O (upd H a o) (S.set k (some ob')) ∧ Ext O S H O (S.set k (some ob')) (upd H a o) := by
  have hk : k < S.length := (List.getElem?_eq_some_iff.mp hs).1
  have lv : ∀ b, Lv O (S.set k (some ob')) b → Lv O S b := fun b ⟨j, u, h1, h2⟩ => by
    by_cases e : j = k
    · rw [e] at h1
      exact ⟨k, ob, h1, hs⟩
    · rw [List.getElem?_set_ne (Ne.symm e)] at h2
      exact ⟨j, u, h1, h2⟩
  have ex : Ext O S H O (S.set k (some ob')) (upd H a o) := ⟨⟨[], by simp⟩, fun b u h => by
    refine ⟨?_, fun z => h.2 (lv b z)⟩
    rw [upd_ne]
    · exact h.1
    · rintro rfl
      exact h.2 ⟨k, ob, ha, hs⟩⟩
  refine ⟨⟨by rw [List.length_set]; exact h.len, h.nod, fun b hb => ?_, fun j u e => ?_⟩, ex⟩
  · obtain ⟨u, z⟩ := h.there b hb
    by_cases e : b = a
    · rw [e]
      exact ⟨o, upd_same⟩
    · exact ⟨u, by rw [upd_ne e]; exact z⟩
  · by_cases ej : j = k
    · subst ej
      rw [List.getElem?_set_self hk] at e
      injection e with e
      injection e with e
      subst e
      exact ⟨a, ha, q.keep ex.fz rfl⟩
    · rw [List.getElem?_set_ne (Ne.symm ej)] at e
      obtain ⟨b, h1, h2⟩ := h.ob j u e
      refine ⟨b, h1, h2.keep ex.fz ?_⟩
      rw [upd_ne]
      rintro rfl
      exact ej (nodup_get h.nod h1 ha)
/-- a new owned thing -/
theorem own_new {O : List Addr} {H : Hp} {S : Own} {p : Addr} {ob : Ob} {o : HO} (h : StoreOk O H S) (n : H p = none) (q : ObR (Fz O S H) (upd H p o) p ob) :
    StoreOk (O ++ [p]) (upd H p o) (S ++ [some ob]) ∧ Ext O S H (O ++ [p]) (S ++ [some ob]) (upd H p o) := by
  have np := not_lv_new h n
  have lv : ∀ b, b ≠ p → Lv (O ++ [p]) (S ++ [some ob]) b → Lv O S b := fun b hb ⟨j, u, h1, h2⟩ => by
    by_cases e : j < O.length
    · rw [List.getElem?_append_left e] at h1
      rw [List.getElem?_append_left (by rw [← h.len]; exact e)] at h2
      exact ⟨j, u, h1, h2⟩
    · rw [List.getElem?_append_right (by omega)] at h1
      have z := List.mem_of_getElem? h1
      rw [List.mem_singleton] at z
      exact absurd z hb
  have ex : Ext O S H (O ++ [p]) (S ++ [some ob]) (upd H p o) := ⟨⟨[p], rfl⟩, fun b u hu => by
    have ne := ne_of_none hu.1 n
    exact ⟨by rw [upd_ne ne]; exact hu.1, fun z => hu.2 (lv b ne z)⟩⟩
  refine ⟨⟨by rw [List.length_append, List.length_append, h.len]; rfl, ?_, fun b hb => ?_, fun j u e => ?_⟩, ex⟩
  · rw [List.nodup_append]
    exact ⟨h.nod, by simp, fun x hx y hy => by
      rw [List.mem_singleton] at hy
      rintro rfl
      exact np (hy ▸ hx)⟩
  · rcases List.mem_append.mp hb with z | z
    · obtain ⟨u, q⟩ := h.there b z
      exact ⟨u, by rw [upd_ne (ne_of_none q n)]; exact q⟩
    · rw [List.mem_singleton] at z
      rw [z]
      exact ⟨o, upd_same⟩
  · by_cases ej : j < S.length
    · rw [List.getElem?_append_left ej] at e
      obtain ⟨b, h1, h2⟩ := h.ob j u e
      refine ⟨b, ex.get h1, h2.keep ex.fz ?_⟩
      obtain ⟨z, y⟩ := h.there b (List.mem_of_getElem? h1)
      rw [upd_ne (ne_of_none y n)]
    · rw [List.getElem?_append_right (by omega)] at e
      have z : j - S.length = 0 := by
        have y := (List.getElem?_eq_some_iff.mp e).1
        simp at y
        omega
      rw [z] at e
      injection e with e
      injection e with e
      subst e
      refine ⟨p, ?_, q.keep ex.fz rfl⟩
      rw [List.getElem?_append_right (by have := h.len; omega), show j - O.length = 0 by have := h.len; omega]
      rfl
/-- an owned thing is not owned any more -/
theorem own_drop {O : List Addr} {H : Hp} {S : Own} {k : Nat} (h : StoreOk O H S) : StoreOk O H (S.set k none) ∧ Ext O S H O (S.set k none) H := by
  have lv : ∀ b, Lv O (S.set k none) b → Lv O S b := fun b ⟨j, u, h1, h2⟩ => by
    by_cases e : j = k
    · subst e
      by_cases hk : j < S.length
      · rw [List.getElem?_set_self hk] at h2
        cases h2
      · rw [List.getElem?_eq_none (by rw [List.length_set]; omega)] at h2
        cases h2
    · rw [List.getElem?_set_ne (Ne.symm e)] at h2
      exact ⟨j, u, h1, h2⟩
  have ex : Ext O S H O (S.set k none) H := ⟨⟨[], by simp⟩, fun b u hu => ⟨hu.1, fun z => hu.2 (lv b z)⟩⟩
  refine ⟨⟨by rw [List.length_set]; exact h.len, h.nod, h.there, fun j u e => ?_⟩, ex⟩
  by_cases ej : j = k
  · subst ej
    by_cases hk : j < S.length
    · rw [List.getElem?_set_self hk] at e
      cases e
    · rw [List.getElem?_eq_none (by rw [List.length_set]; omega)] at e
      cases e
  · rw [List.getElem?_set_ne (Ne.symm ej)] at e
    obtain ⟨b, h1, h2⟩ := h.ob j u e
    exact ⟨b, h1, h2.keep ex.fz rfl⟩
/-- .. and then it is data -/
theorem own_frz {O : List Addr} {H : Hp} {S : Own} {k : Nat} {a : Addr} {ob : Ob} (h : StoreOk O H S) (ha : O[k]? = some a) (hs : S[k]? = some (some ob)) : Dv (Fz O (S.set k none) H) (.ref a) (obD ob) := by
  obtain ⟨b, h1, h2⟩ := h.ob k ob hs
  rw [ha] at h1
  cases h1
  have nl : ¬ Lv O (S.set k none) a := fun ⟨j, u, h1, h2⟩ => by
    have e := nodup_get h.nod h1 ha
    rw [e, List.getElem?_set_self (List.getElem?_eq_some_iff.mp hs).1] at h2
    cases h2
  rcases h2.kind with ⟨ds, xs, z, e, l⟩ | ⟨C, ns, ds, dx, xs, z, e, e2, l1, l⟩ | ⟨ks, ds, xs, z, e, l1, l⟩ | ⟨ks, ds, xs, z, e, l1, l⟩
  · rw [z]
    exact .lst ⟨e, nl⟩ (l.k (own_drop h).2.fz)
  · rw [z]
    exact .ins ⟨e, nl⟩ ((own_drop h).2.fz _ _ e2) l1 (l.k (own_drop h).2.fz)
  · rw [z]
    exact .dck ⟨e, nl⟩ l1 (l.k (own_drop h).2.fz)
  · rw [z]
    exact .dct ⟨e, nl⟩ l1 (l.k (own_drop h).2.fz)
end Va

set_option maxRecDepth 100000
set_option maxHeartbeats 2000000
namespace Va
open PySem PySem.Spec PyProof.Rows L2 Fd

/-! ### readings of data -/
abbrev DE := DS → (W → DS → Prop) → Prop
abbrev DT := DS → (Bool → DS → Prop) → Prop
abbrev DA := DS → (List W → DS → Prop) → Prop
structure DEnds where
  nx : DS → Prop
  rt : W → DS → Prop
  bk : DS → Prop := fun _ => False
  ct : DS → Prop := fun _ => False
abbrev DP := DEnds → DS → Prop
inductive WRs (O : List Addr) (S : Own) (H : Hp) : List V → List W → Prop
  | nil : WRs O S H [] []
  | cons {v : V} {vs : List V} {w : W} {ws : List W} : WR O S H v w → WRs O S H vs ws → WRs O S H (v :: vs) (w :: ws)
theorem WRs.ext {O O' : List Addr} {S S' : Own} {H H' : Hp} : ∀ {vs : List V} {ws : List W}, WRs O S H vs ws → Ext O S H O' S' H' → WRs O' S' H' vs ws
  | _, _, .nil, _ => .nil
  | _, _, .cons a b, e => .cons (a.ext e) (b.ext e)
theorem WRs.len {O : List Addr} {S : Own} {H : Hp} : ∀ {vs : List V} {ws : List W}, WRs O S H vs ws → vs.length = ws.length
  | _, _, .nil => rfl
  | _, _, .cons _ b => by rw [List.length_cons, List.length_cons, b.len]
/-- what follows, seen from both sides -/
def Lk (B : Base) (O : List Addr) (σ : L2.St) (H : Hp) (δ : DS) (Qd : W → DS → Prop) (Q : VK) : Prop :=
  ∀ (w : W) (δ' : DS) (O' : List Addr) (v : V) (H' : Hp), Qd w δ' → Ext O δ.own H O' δ'.own H' → Rel B O' σ H' δ' → WR O' δ'.own H' v w → Q v H'
def LkT (B : Base) (O : List Addr) (σ : L2.St) (H : Hp) (δ : DS) (Qd : Bool → DS → Prop) (Q : Bool → Hp → Prop) : Prop :=
  ∀ (b : Bool) (δ' : DS) (O' : List Addr) (H' : Hp), Qd b δ' → Ext O δ.own H O' δ'.own H' → Rel B O' σ H' δ' → Q b H'
def LkA (B : Base) (O : List Addr) (σ : L2.St) (H : Hp) (δ : DS) (Qd : List W → DS → Prop) (Q : List V → Hp → Prop) : Prop :=
  ∀ (ws : List W) (δ' : DS) (O' : List Addr) (vs : List V) (H' : Hp), Qd ws δ' → Ext O δ.own H O' δ'.own H' → Rel B O' σ H' δ' → WRs O' δ'.own H' vs ws → Q vs H'
structure LkS (B : Base) (O : List Addr) (H : Hp) (δ : DS) (Dd : DEnds) (E : Ends) : Prop where
  nx : ∀ (δ' : DS) (O' : List Addr) (σ' : L2.St) (H' : Hp), Dd.nx δ' → Ext O δ.own H O' δ'.own H' → Rel B O' σ' H' δ' → E.nx σ' H'
  rt : ∀ (w : W) (δ' : DS) (O' : List Addr) (σ' : L2.St) (v : V) (H' : Hp), Dd.rt w δ' → Ext O δ.own H O' δ'.own H' → Rel B O' σ' H' δ' → WR O' δ'.own H' v w → E.rt v H'
  bk : ∀ (δ' : DS) (O' : List Addr) (σ' : L2.St) (H' : Hp), Dd.bk δ' → Ext O δ.own H O' δ'.own H' → Rel B O' σ' H' δ' → E.bk σ' H'
  ct : ∀ (δ' : DS) (O' : List Addr) (σ' : L2.St) (H' : Hp), Dd.ct δ' → Ext O δ.own H O' δ'.own H' → Rel B O' σ' H' δ' → E.ct σ' H'
def upE (B : Base) (td : DE) : TE := fun σ H Q => ∃ (O : List Addr) (δ : DS) (Qd : W → DS → Prop), Rel B O σ H δ ∧ td δ Qd ∧ Lk B O σ H δ Qd Q
def upT (B : Base) (td : DT) : TT := fun σ H Q => ∃ (O : List Addr) (δ : DS) (Qd : Bool → DS → Prop), Rel B O σ H δ ∧ td δ Qd ∧ LkT B O σ H δ Qd Q
def upA (B : Base) (td : DA) : TA := fun σ H Q => ∃ (O : List Addr) (δ : DS) (Qd : List W → DS → Prop), Rel B O σ H δ ∧ td δ Qd ∧ LkA B O σ H δ Qd Q
def upS (B : Base) (td : DP) : TS := fun E σ H => ∃ (O : List Addr) (δ : DS) (Dd : DEnds), Rel B O σ H δ ∧ td Dd δ ∧ LkS B O H δ Dd E
theorem Lk.ext {B : Base} {O O1 : List Addr} {σ : L2.St} {H H1 : Hp} {δ δ1 : DS} {Qd : W → DS → Prop} {Q : VK} (l : Lk B O σ H δ Qd Q) (e : Ext O δ.own H O1 δ1.own H1) : Lk B O1 σ H1 δ1 Qd Q :=
  fun w δ' O' v H' q e' r h => l w δ' O' v H' q (e.trans e') r h
theorem LkS.ext {B : Base} {O O1 : List Addr} {H H1 : Hp} {δ δ1 : DS} {Dd : DEnds} {E : Ends} (l : LkS B O H δ Dd E) (e : Ext O δ.own H O1 δ1.own H1) : LkS B O1 H1 δ1 Dd E :=
  ⟨fun δ' O' σ' H' q e' r => l.nx δ' O' σ' H' q (e.trans e') r, fun w δ' O' σ' v H' q e' r h => l.rt w δ' O' σ' v H' q (e.trans e') r h,
   fun δ' O' σ' H' q e' r => l.bk δ' O' σ' H' q (e.trans e') r, fun δ' O' σ' H' q e' r => l.ct δ' O' σ' H' q (e.trans e') r⟩

section
variable {X : Cx} {B : Base} {e a b c : Expr} {es : List Expr} {st : Stmt} {sts : List Stmt} {pos : Pos}
theorem pe_imp {t t' : TE} (h : PE X e t) (i : ∀ σ H Q, t' σ H Q → t σ H Q) : PE X e t' := ⟨fun pins s σ H Q I q => h.run pins s σ H Q I (i σ H Q q)⟩
theorem pt_imp {t t' : TT} (h : PT X e t) (i : ∀ σ H Q, t' σ H Q → t σ H Q) : PT X e t' := ⟨fun pins s σ H Q I q => h.run pins s σ H Q I (i σ H Q q)⟩
theorem pw_imp {t t' : TT} (h : PW X e t) (i : ∀ σ H Q, t' σ H Q → t σ H Q) : PW X e t' := ⟨fun wh pins s σ H Q I q => h.run wh pins s σ H Q I (i σ H Q q)⟩
theorem pa_imp {t t' : TA} (h : PA X es t) (i : ∀ σ H Q, t' σ H Q → t σ H Q) : PA X es t' := ⟨fun pos pins s σ H Q I q => h.run pos pins s σ H Q I (i σ H Q q)⟩
theorem ps_imp {t t' : TS} (h : PS X st t) (i : ∀ E σ H, t' E σ H → t E σ H) : PS X st t' := ⟨fun pins s σ H E I q => h.run pins s σ H E I (i E σ H q)⟩
theorem pss_imp {t t' : TS} (h : PSs X sts t) (i : ∀ E σ H, t' E σ H → t E σ H) : PSs X sts t' := ⟨fun pins s σ H E I q => h.run pins s σ H E I (i E σ H q)⟩

/-! ### names, constants -/
def dVar (i : Nat) : DE := fun δ Q => ∃ w, δ.slots[i]? = some (some w) ∧ Q w δ
theorem vv (i : Nat) (h : PE X e (tVar i)) : PE X e (upE B (dVar i)) := pe_imp h fun σ H Q ⟨O, δ, Qd, R, ⟨w, e1, q⟩, L⟩ => by
  obtain ⟨v, h1, h2⟩ := R.sl i w e1
  exact ⟨v, h1, L w δ O v H q .refl R h2⟩
def dC (d : D) : DE := fun δ Q => Q (.dat d) δ
theorem vc {v : V} {d : D} (hd : ∀ P, Dv P v d) (h : PE X e (tC v)) : PE X e (upE B (dC d)) := pe_imp h fun σ H Q ⟨O, δ, Qd, R, q, L⟩ => L _ δ O v H q .refl R (hd _)
theorem v_int {i : Int} {j pos} : PE X (.Constant (.int i) j pos) (upE B (dC (.int i))) := vc (fun _ => .int i) pe_int
theorem v_bl {i : Bool} {j pos} : PE X (.Constant (.bool i) j pos) (upE B (dC (.bl i))) := vc (fun _ => .bl i) pe_bl
theorem v_str {i} {j pos} : PE X (.Constant (.str i) j pos) (upE B (dC (.str i))) := vc (fun _ => .str i) pe_str
theorem v_non {j pos} : PE X (.Constant .none j pos) (upE B (dC .non)) := vc (fun _ => .non) pe_non
theorem v_cst {i : Int} (h : PE X e (tC (.int i))) : PE X e (upE B (dC (.int i))) := vc (fun _ => .int i) h
theorem v_con {v : V} (h : PE X e (tC v)) : PE X e (upE B (dC (.con v))) := vc (fun _ => .con v) h

/-! ### what is seen of a thing -/
def Pk (S : Own) : W → D → Prop
  | .dat d, d' => d' = d
  | .own k, d' => ∃ ob, S[k]? = some (some ob) ∧ d' = obD ob
def Vw (P : FP) (H : Hp) (v : V) : D → Prop
  | .lst ds => ∃ a xs, v = .ref a ∧ H a = some (.lst xs) ∧ DvAll P xs ds
  | .tup ds => ∃ a xs, v = .ref a ∧ H a = some (.tup xs) ∧ DvAll P xs ds
  | .ins C ns ds => ∃ a dx xs, v = .ref a ∧ H a = some (.ins C dx (ns.zip xs)) ∧ P dx (.own a) ∧ ns.length = xs.length ∧ DvAll P xs ds
  | .dic a => v = .ref a ∧ H a = some (.dK [])
  | .dck ks ds => ∃ a xs, v = .ref a ∧ H a = some (.dK (ks.zip xs)) ∧ ks.length = xs.length ∧ DvAll P xs ds
  | .dct ks ds => ∃ a xs, v = .ref a ∧ H a = some (.dT (ks.zip xs)) ∧ ks.length = xs.length ∧ DvAll P xs ds
  | d => Dv P v d
theorem vw_of {O : List Addr} {S : Own} {H : Hp} {v : V} {d : D} (h : Dv (Fz O S H) v d) : Vw (Fz O S H) H v d := by
  cases h with
  | lst e l => exact ⟨_, _, rfl, e.1, l⟩
  | tup e l => exact ⟨_, _, rfl, e.1, l⟩
  | non => exact .non
  | bl b => exact .bl b
  | int i => exact .int i
  | str x => exact .str x
  | con => exact .con _
  | ins e1 e2 l a => exact ⟨_, _, _, rfl, e1.1, e2, l, a⟩
  | dic e => exact ⟨rfl, e.1⟩
  | dck e l a => exact ⟨_, _, rfl, e.1, l, a⟩
  | dct e l a => exact ⟨_, _, rfl, e.1, l, a⟩
theorem pk_vw {O : List Addr} {S : Own} {H : Hp} {v : V} {w : W} {d : D} (st : StoreOk O H S) (h : WR O S H v w) (p : Pk S w d) : Vw (Fz O S H) H v d := by
  cases w with
  | dat d' =>
    cases p
    exact vw_of h
  | own k =>
    obtain ⟨ob, h1, rfl⟩ := p
    obtain ⟨a, h2, rfl⟩ := h
    obtain ⟨a', h3, h4⟩ := st.ob k ob h1
    rw [h2] at h3
    cases h3
    rcases h4.kind with ⟨ds, xs, z, e, l⟩ | ⟨C, ns, ds, dx, xs, z, e, e2, l1, l⟩ | ⟨ks, ds, xs, z, e, l1, l⟩ | ⟨ks, ds, xs, z, e, l1, l⟩
    · rw [z]
      exact ⟨a, xs, rfl, e, l⟩
    · rw [z]
      exact ⟨a, dx, xs, rfl, e, e2, l1, l⟩
    · rw [z]
      exact ⟨a, xs, rfl, e, l1, l⟩
    · rw [z]
      exact ⟨a, xs, rfl, e, l1, l⟩

/-! ### two things -/
abbrev R2d := W → W → DS → (W → DS → Prop) → Prop
def d2 (rd : R2d) (ta tb : DE) : DE := fun δ Q => ta δ fun w δ1 => tb δ1 fun u δ2 => rd w u δ2 Q
def Up2 (r : R2) (rd : R2d) : Prop := ∀ (B : Base) (O : List Addr) (σ : L2.St) (H : Hp) (δ : DS) (x y : V) (w u : W) (Qd : W → DS → Prop) (Q : VK),
  Rel B O σ H δ → WR O δ.own H x w → WR O δ.own H y u → rd w u δ Qd → Lk B O σ H δ Qd Q → r x y H Q
theorem up2 {r : R2} {rd : R2d} (up : Up2 r rd) {ta tb : DE} (σ : L2.St) (H : Hp) (Q : VK) : upE B (d2 rd ta tb) σ H Q → tOp r (upE B ta) (upE B tb) σ H Q := fun ⟨O, δ, Qd, R, h, L⟩ =>
  ⟨O, δ, _, R, h, fun w δ1 O1 v H1 q e1 R1 r1 => ⟨O1, δ1, _, R1, q, fun u δ2 O2 y H2 q2 e2 R2 r2 => up B O2 σ H2 δ2 v y w u Qd Q R2 (r1.ext e2) r2 q2 (L.ext (e1.trans e2))⟩⟩
theorem v_op {op : Operator} {r : R2} {rd : R2d} (ho : OpR X (binaryOp op) r ∧ Up2 r rd) {ta tb : DE} (ha : PE X a (upE B ta)) (hb : PE X b (upE B tb)) : PE X (.BinOp a op b pos) (upE B (d2 rd ta tb)) := pe_imp (pe_op ho.1 ha hb) (up2 ho.2)
def dTest (td : DE) : DT := fun δ Q => td δ fun w δ1 => ∃ k, w = .dat (.bl k) ∧ Q k δ1
theorem up_test {td : DE} (σ : L2.St) (H : Hp) (Q : Bool → Hp → Prop) : upT B (dTest td) σ H Q → tTest (upE B td) σ H Q := fun ⟨O, δ, Qd, R, h, L⟩ =>
  ⟨O, δ, _, R, h, fun w δ1 O1 v H1 ⟨k, ew, q⟩ e1 R1 r1 => by
    subst ew
    cases r1
    exact ⟨k, rfl, L k δ1 O1 H1 q e1 R1⟩⟩
theorem upE_mono {td : DE} (σ : L2.St) (H : Hp) {Q Q' : VK} (h : upE B td σ H Q) (m : ∀ v H', Q v H' → Q' v H') : upE B td σ H Q' := by
  obtain ⟨O, δ, Qd, R, h, L⟩ := h
  exact ⟨O, δ, Qd, R, h, fun w δ1 O1 v H1 q e1 R1 r1 => m _ _ (L w δ1 O1 v H1 q e1 R1 r1)⟩
theorem v_cmp {op : CmpOp} {r : R2} {rd : R2d} (ho : OpR X (compareOp op) r ∧ Up2 r rd) {ta tb : DE} (ha : PE X a (upE B ta)) (hb : PE X b (upE B tb)) (hm : behindInMarks op b = false := by exact nomark _) : PE X (.Compare a [op] [b] pos) (upE B (d2 rd ta tb)) :=
  pe_imp (pe_cmpR ho.1 ha hb hm) (up2 ho.2)
theorem vt_cmp {op : CmpOp} {r : R2} {rd : R2d} (ho : OpR X (compareOp op) r ∧ Up2 r rd) {ta tb : DE} (ha : PE X a (upE B ta)) (hb : PE X b (upE B tb)) (hm : behindInMarks op b = false := by exact nomark _) : PT X (.Compare a [op] [b] pos) (upT B (dTest (d2 rd ta tb))) :=
  pt_imp (pt_cmpR ho.1 ha hb hm) fun σ H Q h => by
    obtain ⟨O, δ, Qd, R, h, L⟩ := h
    refine up2 ho.2 σ H _ ⟨O, δ, _, R, h, fun w δ1 O1 v H1 q e1 R1 r1 => ?_⟩
    obtain ⟨k, ew, q⟩ := q
    subst ew
    cases r1
    exact ⟨k, rfl, L k δ1 O1 H1 q e1 R1⟩
/-- a op1 b op2 c -/
def dChain (r r' : R2d) (ta tb tc : DE) : DE := fun δ Q => ta δ fun x δ1 => tb δ1 fun y δ2 => r x y δ2 fun z δ3 => ∃ k, z = .dat (.bl k) ∧ if k = true then tc δ3 fun u δ4 => r' y u δ4 Q else Q (.dat (.bl false)) δ3

/-! ### and, or, not, if -/
def dAnd (t u : DT) : DT := fun δ Q => t δ fun c δ1 => if c = true then u δ1 Q else Q false δ1
def dOr (t u : DT) : DT := fun δ Q => t δ fun c δ1 => if c = true then Q true δ1 else u δ1 Q
def dNot (t : DT) : DT := fun δ Q => t δ fun c δ1 => Q (!c) δ1
theorem LkT.ext {O O1 : List Addr} {σ : L2.St} {H H1 : Hp} {δ δ1 : DS} {Qd : Bool → DS → Prop} {Q : Bool → Hp → Prop} (l : LkT B O σ H δ Qd Q) (e : Ext O δ.own H O1 δ1.own H1) : LkT B O1 σ H1 δ1 Qd Q :=
  fun b δ' O' H' q e' r => l b δ' O' H' q (e.trans e') r
variable {ta tb : DT}
theorem vt_not (ha : PT X a (upT B ta)) : PT X (.UnaryOp .Not a pos) (upT B (dNot ta)) := pt_imp (pt_not ha) fun σ H Q ⟨O, δ, Qd, R, h, L⟩ => ⟨O, δ, _, R, h, fun b δ1 O1 H1 q e R1 => L _ δ1 O1 H1 q e R1⟩
theorem vw_and1 (ha : PT X a (upT B ta)) : PW X (.BoolOp .And [a] pos) (upT B ta) := pw_and1 ha
theorem vw_or1 (ha : PT X a (upT B ta)) : PW X (.BoolOp .Or [a] pos) (upT B ta) := pw_or1 ha
theorem vw_and (ha : PT X a (upT B ta)) (hb : PW X (.BoolOp .And (b :: es) pos) (upT B tb)) : PW X (.BoolOp .And (a :: b :: es) pos) (upT B (dAnd ta tb)) := pw_imp (pw_and ha hb) fun σ H Q ⟨O, δ, Qd, R, h, L⟩ =>
  ⟨O, δ, _, R, h, fun k δ1 O1 H1 q e R1 => by
    cases k with
    | true => exact ⟨O1, δ1, Qd, R1, q, L.ext e⟩
    | false => exact L _ δ1 O1 H1 q e R1⟩
theorem vw_or (ha : PT X a (upT B ta)) (hb : PW X (.BoolOp .Or (b :: es) pos) (upT B tb)) : PW X (.BoolOp .Or (a :: b :: es) pos) (upT B (dOr ta tb)) := pw_imp (pw_or ha hb) fun σ H Q ⟨O, δ, Qd, R, h, L⟩ =>
  ⟨O, δ, _, R, h, fun k δ1 O1 H1 q e R1 => by
    cases k with
    | true => exact L _ δ1 O1 H1 q e R1
    | false => exact ⟨O1, δ1, Qd, R1, q, L.ext e⟩⟩
def dIf (t : DT) (u v : DE) : DE := fun δ Q => t δ fun c δ1 => if c = true then u δ1 Q else v δ1 Q
theorem v_ifExp {ua ub : DE} (hc : PT X c (upT B ta)) (ha : PE X a (upE B ua)) (hb : PE X b (upE B ub)) : PE X (.IfExp c a b pos) (upE B (dIf ta ua ub)) := pe_imp (pe_ifExp hc ha hb) fun σ H Q ⟨O, δ, Qd, R, h, L⟩ =>
  ⟨O, δ, _, R, h, fun k δ1 O1 H1 q e R1 => by
    cases k with
    | true => exact ⟨O1, δ1, Qd, R1, q, L.ext e⟩
    | false => exact ⟨O1, δ1, Qd, R1, q, L.ext e⟩⟩
/-- as values -/
def dAndV (ta tb : DE) : DE := fun δ Q => ta δ fun w δ1 => ∃ k, w = .dat (.bl k) ∧ if k = true then tb δ1 Q else Q (.dat (.bl false)) δ1
def dOrV (ta tb : DE) : DE := fun δ Q => ta δ fun w δ1 => ∃ k, w = .dat (.bl k) ∧ if k = true then Q (.dat (.bl true)) δ1 else tb δ1 Q
def dNotV (ta : DE) : DE := fun δ Q => ta δ fun w δ1 => ∃ k, w = .dat (.bl k) ∧ Q (.dat (.bl (!k))) δ1
variable {ua ub uc : DE}
theorem v_one {op} (h : PE X a (upE B ua)) : PE X (.BoolOp op [a] pos) (upE B ua) := pe_one h
theorem v_and (ha : PE X a (upE B ua)) (hb : PE X (.BoolOp .And (b :: es) pos) (upE B ub)) : PE X (.BoolOp .And (a :: b :: es) pos) (upE B (dAndV ua ub)) := pe_imp (pe_and ha hb) fun σ H Q ⟨O, δ, Qd, R, h, L⟩ =>
  ⟨O, δ, _, R, h, fun w δ1 O1 v H1 ⟨k, ew, q⟩ e R1 r1 => by
    subst ew
    cases r1
    refine ⟨k, rfl, ?_⟩
    cases k with
    | true => exact ⟨O1, δ1, Qd, R1, q, L.ext e⟩
    | false => exact L _ δ1 O1 _ H1 q e R1 (.bl false)⟩
theorem v_or (ha : PE X a (upE B ua)) (hb : PE X (.BoolOp .Or (b :: es) pos) (upE B ub)) : PE X (.BoolOp .Or (a :: b :: es) pos) (upE B (dOrV ua ub)) := pe_imp (pe_or ha hb) fun σ H Q ⟨O, δ, Qd, R, h, L⟩ =>
  ⟨O, δ, _, R, h, fun w δ1 O1 v H1 ⟨k, ew, q⟩ e R1 r1 => by
    subst ew
    cases r1
    refine ⟨k, rfl, ?_⟩
    cases k with
    | false => exact ⟨O1, δ1, Qd, R1, q, L.ext e⟩
    | true => exact L _ δ1 O1 _ H1 q e R1 (.bl true)⟩
theorem v_not (ha : PE X a (upE B ua)) : PE X (.UnaryOp .Not a pos) (upE B (dNotV ua)) := pe_imp (pe_not ha) fun σ H Q ⟨O, δ, Qd, R, h, L⟩ =>
  ⟨O, δ, _, R, h, fun w δ1 O1 v H1 ⟨k, ew, q⟩ e R1 r1 => by
    subst ew
    cases r1
    exact ⟨k, rfl, L _ δ1 O1 _ H1 q e R1 (.bl _)⟩⟩
theorem vt_val (h : PE X e (upE B ua)) (he : ∀ whole, isTrue e X.env whole = (do let v ← whole; standAt e.pos; holding [v] (truthy v)) := by intro _; rfl) : PT X e (upT B (dTest ua)) := pt_imp (pt_val h he) up_test

/-! ### statements -/
def dSeq (t u : DP) : DP := fun D δ => t { D with nx := u D } δ
variable {t u : DP}
theorem vs_nil : PSs X [] (upS B fun D δ => D.nx δ) := pss_imp pss_nil fun E σ H ⟨O, δ, Dd, R, h, L⟩ => L.nx δ O σ H h .refl R
theorem vs_one (h : PS X st (upS B t)) : PSs X [st] (upS B t) := pss_one h
theorem vs_cons (h1 : PS X st (upS B t)) (h2 : PSs X sts (upS B u)) : PSs X (st :: sts) (upS B (dSeq t u)) := pss_imp (pss_cons h1 h2) fun E σ H ⟨O, δ, Dd, R, h, L⟩ =>
  ⟨O, δ, _, R, h, fun δ1 O1 σ1 H1 q e R1 => ⟨O1, δ1, Dd, R1, q, L.ext e⟩, L.rt, L.bk, L.ct⟩
/-- in the middle: Mid -/
def dCut (t u : DP) : DP := fun D δ => ∃ Mid : DS → Prop, t { D with nx := Mid } δ ∧ ∀ δ', Mid δ' → u D δ'
theorem vs_cut (h1 : PS X st (upS B t)) (h2 : PSs X sts (upS B u)) : PSs X (st :: sts) (upS B (dCut t u)) := pss_imp (pss_cons h1 h2) fun E σ H ⟨O, δ, Dd, R, ⟨Mid, h, hm⟩, L⟩ =>
  ⟨O, δ, _, R, h, fun δ1 O1 σ1 H1 q e R1 => ⟨O1, δ1, Dd, R1, hm _ q, L.ext e⟩, L.rt, L.bk, L.ct⟩
theorem v_pass : PS X (.Pass pos) (upS B fun D δ => D.nx δ) := ps_imp ps_pass fun E σ H ⟨O, δ, Dd, R, h, L⟩ => L.nx δ O σ H h .refl R
theorem v_break : PS X (.Break pos) (upS B fun D δ => D.bk δ) := ps_imp ps_break fun E σ H ⟨O, δ, Dd, R, h, L⟩ => L.bk δ O σ H h .refl R
theorem v_continue : PS X (.Continue pos) (upS B fun D δ => D.ct δ) := ps_imp ps_continue fun E σ H ⟨O, δ, Dd, R, h, L⟩ => L.ct δ O σ H h .refl R
def dDrop (te : DE) : DP := fun D δ => te δ fun _ δ1 => D.nx δ1
theorem v_expr (he : PE X e (upE B ua)) (hs : swapsWith e none pos.line X.env = pure false := by rfl) : PS X (.Expr e pos) (upS B (dDrop ua)) := ps_imp (ps_expr he hs) fun E σ H ⟨O, δ, Dd, R, h, L⟩ =>
  ⟨O, δ, _, R, h, fun w δ1 O1 v H1 q e R1 _ => L.nx δ1 O1 σ H1 q e R1⟩
def dRet (te : DE) : DP := fun D δ => te δ D.rt
theorem v_ret (he : PE X e (upE B ua)) : PS X (.Return (some e) pos) (upS B (dRet ua)) := ps_imp (ps_ret he) fun E σ H ⟨O, δ, Dd, R, h, L⟩ =>
  ⟨O, δ, _, R, h, fun w δ1 O1 v H1 q e R1 r1 => L.rt w δ1 O1 σ v H1 q e R1 r1⟩
theorem v_retN : PS X (.Return none pos) (upS B fun D δ => D.rt (.dat .non) δ) := ps_imp ps_retN fun E σ H ⟨O, δ, Dd, R, h, L⟩ => L.rt _ δ O σ _ H h .refl R .non
def dIfS (c : DT) (t u : DP) : DP := fun D δ => c δ fun b δ1 => if b = true then t D δ1 else u D δ1
theorem v_if {p q : List Stmt} (hc : PT X c (upT B ta)) (ha : PSs X p (upS B t)) (hb : PSs X q (upS B u)) : PS X (.If c p q pos) (upS B (dIfS ta t u)) := ps_imp (ps_if hc ha hb) fun E σ H ⟨O, δ, Dd, R, h, L⟩ =>
  ⟨O, δ, _, R, h, fun k δ1 O1 H1 q e R1 => by
    cases k with
    | true => exact ⟨O1, δ1, Dd, R1, q, L.ext e⟩
    | false => exact ⟨O1, δ1, Dd, R1, q, L.ext e⟩⟩
def dSet (i : Nat) (te : DE) : DP := fun D δ => te δ fun w δ1 => D.nx ⟨δ1.slots.set i (some w), δ1.own⟩
theorem v_set {i : Nat} (te : DE) (hs : PS X st (tAsg (upE B te) (gName i))) : PS X st (upS B (dSet i te)) := ps_imp hs fun E σ H ⟨O, δ, Dd, R, h, L⟩ =>
  ⟨O, δ, _, R, h, fun w δ1 O1 v H1 q e R1 r1 => L.nx _ O1 _ H1 q e (R1.set i r1)⟩
end
end Va

set_option maxRecDepth 100000
set_option maxHeartbeats 2000000
namespace Va
open PySem PySem.Spec PyProof.Rows L2 Fd

/-! ### ints -/
def rdI (C : Int → Int → Prop) (g : Int → Int → D) : R2d := fun w u δ Q => ∃ i j, w = .dat (.int i) ∧ u = .dat (.int j) ∧ C i j ∧ Q (.dat (g i j)) δ
def rdI0 (g : Int → Int → D) : R2d := fun w u δ Q => ∃ i j, w = .dat (.int i) ∧ u = .dat (.int j) ∧ Q (.dat (g i j)) δ
theorem up_I {C : Int → Int → Prop} {g : Int → Int → V} {gd : Int → Int → D} (hg : ∀ P i j, Dv P (g i j) (gd i j)) : Up2 (rI C g) (rdI C gd) := by
  rintro B O σ H δ x y w u Qd Q R rx ry ⟨i, j, rfl, rfl, c, q⟩ L
  cases rx
  cases ry
  exact ⟨i, j, rfl, rfl, c, L _ δ O _ H q .refl R (hg _ i j)⟩
theorem up_I0 {g : Int → Int → V} {gd : Int → Int → D} (hg : ∀ P i j, Dv P (g i j) (gd i j)) : Up2 (rI0 g) (rdI0 gd) := by
  rintro B O σ H δ x y w u Qd Q R rx ry ⟨i, j, rfl, rfl, q⟩ L
  cases rx
  cases ry
  exact ⟨i, j, rfl, rfl, L _ δ O _ H q .refl R (hg _ i j)⟩
section
variable {X : Cx}
theorem o_add : OpR X (binaryOp .Add) (rI0 fun i j => .int (i + j)) ∧ Up2 (rI0 fun i j => .int (i + j)) (rdI0 fun i j => .int (i + j)) := ⟨op_add, up_I0 fun _ _ _ => .int _⟩
theorem o_sub : OpR X (binaryOp .Sub) (rI0 fun i j => .int (i - j)) ∧ Up2 (rI0 fun i j => .int (i - j)) (rdI0 fun i j => .int (i - j)) := ⟨op_sub, up_I0 fun _ _ _ => .int _⟩
theorem o_mul : OpR X (binaryOp .Mult) (rI CMul fun i j => .int (i * j)) ∧ Up2 (rI CMul fun i j => .int (i * j)) (rdI CMul fun i j => .int (i * j)) := ⟨op_mul, up_I fun _ _ _ => .int _⟩
theorem o_mod : OpR X (binaryOp .Mod) (rI (fun _ j => 0 < j) fun i j => .int (i % j)) ∧ Up2 (rI (fun _ j => 0 < j) fun i j => .int (i % j)) (rdI (fun _ j => 0 < j) fun i j => .int (i % j)) := ⟨op_mod, up_I fun _ _ _ => .int _⟩
theorem o_fdiv : OpR X (binaryOp .FloorDiv) (rI CDiv fun i j => .int (i / j)) ∧ Up2 (rI CDiv fun i j => .int (i / j)) (rdI CDiv fun i j => .int (i / j)) := ⟨op_fdiv, up_I fun _ _ _ => .int _⟩
theorem o_fdivW : OpR X (binaryOp .FloorDiv) (rI CDivW fun i j => .int (i / j)) ∧ Up2 (rI CDivW fun i j => .int (i / j)) (rdI CDivW fun i j => .int (i / j)) := ⟨op_fdivW, up_I fun _ _ _ => .int _⟩
theorem o_lt : OpR X (compareOp .Lt) (rI0 fun i j => .bl (decide (i < j))) ∧ Up2 (rI0 fun i j => .bl (decide (i < j))) (rdI0 fun i j => .bl (decide (i < j))) := ⟨op_lt, up_I0 fun _ _ _ => .bl _⟩
theorem o_le : OpR X (compareOp .LtE) (rI0 fun i j => .bl (decide (i ≤ j))) ∧ Up2 (rI0 fun i j => .bl (decide (i ≤ j))) (rdI0 fun i j => .bl (decide (i ≤ j))) := ⟨op_le, up_I0 fun _ _ _ => .bl _⟩
theorem o_gt : OpR X (compareOp .Gt) (rI0 fun i j => .bl (decide (j < i))) ∧ Up2 (rI0 fun i j => .bl (decide (j < i))) (rdI0 fun i j => .bl (decide (j < i))) := ⟨op_gt, up_I0 fun _ _ _ => .bl _⟩
theorem o_ge : OpR X (compareOp .GtE) (rI0 fun i j => .bl (decide (j ≤ i))) ∧ Up2 (rI0 fun i j => .bl (decide (j ≤ i))) (rdI0 fun i j => .bl (decide (j ≤ i))) := ⟨op_ge, up_I0 fun _ _ _ => .bl _⟩

/-! ### == and != of none, bools, ints, texts -/
def scD : D → D → Bool
  | .non, .non => true | .non, .int _ => true | .int _, .non => true | .non, .bl _ => true | .bl _, .non => true | .non, .str _ => true | .str _, .non => true
  | .int _, .int _ => true | .bl _, .bl _ => true | .str _, .str _ => true
  | .int _, .str _ => true | .str _, .int _ => true | .bl _, .str _ => true | .str _, .bl _ => true
  | _, _ => false
def eqS : D → D → Bool
  | .non, .non => true
  | .int i, .int j => decide (i = j)
  | .bl i, .bl j => decide (i = j)
  | .str i, .str j => decide (i = j)
  | _, _ => false
theorem sc_ok {P : FP} {x y : V} {d e : D} (hx : Dv P x d) (hy : Dv P y e) (h : scD d e = true) : scal x y = true ∧ decide (x = y) = eqS d e := by
  cases hx <;> cases hy <;> first
    | (cases h; done)
    | exact ⟨rfl, rfl⟩
    | exact ⟨rfl, decide_eq_false (fun z => nomatch z)⟩
    | exact ⟨rfl, decide_eq_decide.mpr ⟨fun z => by injection z, fun z => by rw [z]⟩⟩
def rdEq : R2d := fun w u δ Q => ∃ d e, w = .dat d ∧ u = .dat e ∧ scD d e = true ∧ Q (.dat (.bl (eqS d e))) δ
def rdNe : R2d := fun w u δ Q => ∃ d e, w = .dat d ∧ u = .dat e ∧ scD d e = true ∧ Q (.dat (.bl (!eqS d e))) δ
theorem o_eq : OpR X (compareOp .Eq) rEq ∧ Up2 rEq rdEq := ⟨op_eq, by
  rintro B O σ H δ x y w u Qd Q R rx ry ⟨d, e, rfl, rfl, s, q⟩ L
  obtain ⟨s1, s2⟩ := sc_ok rx ry s
  exact ⟨s1, L _ δ O _ H q .refl R (by rw [s2]; exact .bl _)⟩⟩
theorem o_ne : OpR X (compareOp .NotEq) rNe ∧ Up2 rNe rdNe := ⟨op_ne, by
  rintro B O σ H δ x y w u Qd Q R rx ry ⟨d, e, rfl, rfl, s, q⟩ L
  obtain ⟨s1, s2⟩ := sc_ok rx ry s
  exact ⟨s1, L _ δ O _ H q .refl R (by rw [s2]; exact .bl _)⟩⟩
/-- is None, is not None -/
def nonW : W → Option Bool
  | .dat .non => some true
  | .dat (.con _) => none
  | _ => some false
def rdIsN (n : Bool) : R2d := fun w u δ Q => u = .dat .non ∧ ∃ b, nonW w = some b ∧ Q (.dat (.bl (n != b))) δ
theorem non_ok {O : List Addr} {S : Own} {H : Hp} {x : V} : ∀ {w : W} {b : Bool}, WR O S H x w → nonW w = some b → decide (x = .non) = b
  | .own _, _, h, e => by
    obtain ⟨_, _, rfl⟩ := h
    cases e
    rfl
  | .dat .non, _, h, e => by cases h; cases e; rfl
  | .dat (.bl _), _, h, e => by cases h; cases e; rfl
  | .dat (.int _), _, h, e => by cases h; cases e; rfl
  | .dat (.str _), _, h, e => by cases h; cases e; rfl
  | .dat (.lst _), _, h, e => by cases h; cases e; rfl
  | .dat (.tup _), _, h, e => by cases h; cases e; rfl
  | .dat (.ins _ _ _), _, h, e => by cases h; cases e; rfl
  | .dat (.con _), _, h, e => by cases e
  | .dat (.dic _), _, h, e => by cases h; cases e; rfl
  | .dat (.dck _ _), _, h, e => by cases h; cases e; rfl
  | .dat (.dct _ _), _, h, e => by cases h; cases e; rfl
theorem o_isN : OpR X (compareOp .Is) (fun x y H Q => y = .non ∧ Q (.bl (decide (x = .non))) H) ∧ Up2 (fun x y H Q => y = .non ∧ Q (.bl (decide (x = .non))) H) (rdIsN false) := ⟨op_isN, by
  rintro B O σ H δ x y w u Qd Q R rx ry ⟨rfl, b, e, q⟩ L
  cases ry
  refine ⟨rfl, L _ δ O _ H q .refl R ?_⟩
  rw [non_ok rx e]
  cases b <;> exact .bl _⟩
theorem o_notN : OpR X (compareOp .IsNot) (fun x y H Q => y = .non ∧ Q (.bl (!decide (x = .non))) H) ∧ Up2 (fun x y H Q => y = .non ∧ Q (.bl (!decide (x = .non))) H) (rdIsN true) := ⟨op_notN, by
  rintro B O σ H δ x y w u Qd Q R rx ry ⟨rfl, b, e, q⟩ L
  cases ry
  refine ⟨rfl, L _ δ O _ H q .refl R ?_⟩
  rw [non_ok rx e]
  cases b <;> exact .bl _⟩
end

/-! ### == and != of data -/
mutual
def py : D → PyData
  | .non => .none
  | .bl b => .bool b
  | .int i => .int i
  | .str x => .str x
  | .con _ => .none
  | .ins _ _ _ => .none
  | .dic _ => .dict []
  | .dck _ _ => .dict []
  | .dct _ _ => .dict []
  | .lst ds => .list (pys ds)
  | .tup ds => .tuple (pys ds)
def pys : List D → List PyData
  | [] => []
  | d :: ds => py d :: pys ds
end
mutual
/-- no class, no function in it -/
def pure' : D → Bool
  | .con _ => false
  | .ins _ _ _ => false
  | .dic _ => false
  | .dck _ _ => false
  | .dct _ _ => false
  | .lst ds => pures ds
  | .tup ds => pures ds
  | _ => true
def pures : List D → Bool
  | [] => true
  | d :: ds => pure' d && pures ds
end
mutual
theorem Dv.dp {K : PySem.W.Frag} {H : Hp} {P : FP} (hp : ∀ a o, P a o → H a = some o) : ∀ (d : D) (v : V), Dv P v d → pure' d = true → Dp K H v (py d)
  | .non, _, h, _ => by cases h; exact .non
  | .bl _, _, h, _ => by cases h; exact .bl _
  | .int _, _, h, _ => by cases h; exact .int _
  | .str _, _, h, _ => by cases h; exact .str _
  | .con _, _, _, z => by rw [pure'] at z; cases z
  | .ins _ _ _, _, _, z => by rw [pure'] at z; cases z
  | .dic _, _, _, z => by rw [pure'] at z; cases z
  | .dck _ _, _, _, z => by rw [pure'] at z; cases z
  | .dct _ _, _, _, z => by rw [pure'] at z; cases z
  | .lst ds, _, h, z => by
    rw [pure'] at z
    cases h with
    | lst e l => rw [py]; exact .lst (SqL.of (hp _ _ e)) (DvAll.dp hp ds _ l z)
  | .tup ds, _, h, z => by
    rw [pure'] at z
    cases h with
    | tup e l => rw [py]; exact .tup (SqT.of (hp _ _ e)) (DvAll.dp hp ds _ l z)
theorem DvAll.dp {K : PySem.W.Frag} {H : Hp} {P : FP} (hp : ∀ a o, P a o → H a = some o) : ∀ (ds : List D) (vs : List V), DvAll P vs ds → pures ds = true → DpAll K H vs (pys ds)
  | [], _, h, _ => by cases h; rw [pys]; exact .nil
  | d :: ds, _, h, z => by
    rw [pures, Bool.and_eq_true] at z
    cases h with
    | cons a b => rw [pys]; exact .cons (Dv.dp hp d _ a z.1) (DvAll.dp hp ds _ b z.2)
end
theorem fz_hp {O : List Addr} {S : Own} {H : Hp} : ∀ a o, Fz O S H a o → H a = some o := fun _ _ h => h.1
theorem Vw.dp {K : PySem.W.Frag} {O : List Addr} {S : Own} {H : Hp} {v : V} {d : D} (h : Vw (Fz O S H) H v d) (z : pure' d = true) : Dp K H v (py d) := by
  cases d with
  | lst ds =>
    obtain ⟨a, xs, rfl, e, l⟩ := h
    rw [pure'] at z
    rw [py]
    exact .lst (SqL.of e) (DvAll.dp fz_hp ds _ l z)
  | tup ds =>
    obtain ⟨a, xs, rfl, e, l⟩ := h
    rw [pure'] at z
    rw [py]
    exact .tup (SqT.of e) (DvAll.dp fz_hp ds _ l z)
  | non => exact Dv.dp fz_hp _ _ h z
  | bl b => exact Dv.dp fz_hp _ _ h z
  | int i => exact Dv.dp fz_hp _ _ h z
  | str x => exact Dv.dp fz_hp _ _ h z
  | con x => rw [pure'] at z; cases z
  | ins _ _ _ => rw [pure'] at z; cases z
  | dic _ => rw [pure'] at z; cases z
  | dck _ _ => rw [pure'] at z; cases z
  | dct _ _ => rw [pure'] at z; cases z
/-- such that == answers -/
def shD (d : D) : Bool := pure' d && SeqAt.shaped (py d)
def eqD (d e : D) : Bool := PyData.eqv (py d) (py e)
def rdEqD : R2d := fun w u δ Q => ∃ d e, Pk δ.own w d ∧ Pk δ.own u e ∧ shD d = true ∧ shD e = true ∧ Q (.dat (.bl (eqD d e))) δ
def rdNeD : R2d := fun w u δ Q => ∃ d e, Pk δ.own w d ∧ Pk δ.own u e ∧ shD d = true ∧ shD e = true ∧ Q (.dat (.bl (!eqD d e))) δ
section
variable {X : Cx}
theorem o_eqD (hu : X.A.units + 64 < cLine) : OpR X (compareOp .Eq) (rEqD X.K) ∧ Up2 (rEqD X.K) rdEqD := ⟨op_eqD hu, by
  rintro B O σ H δ x y w u Qd Q R rx ry ⟨d, e, p1, p2, s1, s2, q⟩ L
  rw [shD, Bool.and_eq_true] at s1 s2
  exact ⟨_, _, (pk_vw R.st rx p1).dp s1.1, (pk_vw R.st ry p2).dp s2.1, s1.2, s2.2, L _ δ O _ H q .refl R (.bl _)⟩⟩
theorem o_neD (hu : X.A.units + 64 < cLine) : OpR X (compareOp .NotEq) (rNeD X.K) ∧ Up2 (rNeD X.K) rdNeD := ⟨op_neD hu, by
  rintro B O σ H δ x y w u Qd Q R rx ry ⟨d, e, p1, p2, s1, s2, q⟩ L
  rw [shD, Bool.and_eq_true] at s1 s2
  exact ⟨_, _, (pk_vw R.st rx p1).dp s1.1, (pk_vw R.st ry p2).dp s2.1, s1.2, s2.2, L _ δ O _ H q .refl R (.bl _)⟩⟩

/-! ### + of lists, tuples, texts; a list some times -/
theorem Rel.new {B : Base} {O : List Addr} {σ : L2.St} {H : Hp} {δ : DS} {p : Addr} {xs : List V} {ds : List D} (R : Rel B O σ H δ) (n : H p = none) (l : DvAll (Fz O δ.own H) xs ds) :
    Ext O δ.own H (O ++ [p]) (δ.own ++ [some (.lst ds)]) (upd H p (.lst xs)) ∧ Rel B (O ++ [p]) σ (upd H p (.lst xs)) ⟨δ.slots, δ.own ++ [some (.lst ds)]⟩ ∧ WR (O ++ [p]) (δ.own ++ [some (.lst ds)]) (upd H p (.lst xs)) (.ref p) (.own δ.own.length) := by
  obtain ⟨h1, h2⟩ := own_new (ob := .lst ds) (o := .lst xs) R.st n ⟨xs, upd_same, l⟩
  refine ⟨h2, R.to h1 h2, p, ?_, rfl⟩
  rw [← R.st.len, List.getElem?_append_right (Nat.le_refl _), Nat.sub_self]
  rfl
/-- a new thing that is data at once -/
theorem Rel.dat {B : Base} {O : List Addr} {σ : L2.St} {H : Hp} {δ : DS} {p : Addr} {xs : List V} {ds : List D} (R : Rel B O σ H δ) (n : H p = none) (l : DvAll (Fz O δ.own H) xs ds) :
    Ext O δ.own H O δ.own (upd H p (.tup xs)) ∧ Rel B O σ (upd H p (.tup xs)) δ ∧ WR O δ.own (upd H p (.tup xs)) (.ref p) (.dat (.tup ds)) := by
  have e : Ext O δ.own H O δ.own (upd H p (.tup xs)) := ext_new n
  refine ⟨e, R.to (store_new R.st n) e, .tup ⟨upd_same, fun z => not_lv_new R.st n z.mem⟩ (l.k e.fz)⟩
def rdCat : R2d := fun w u δ Q => ∃ ds es, Pk δ.own w (.lst ds) ∧ Pk δ.own u (.lst es) ∧ ds.length + es.length ≤ sizeLine ∧ Q (.own δ.own.length) ⟨δ.slots, δ.own ++ [some (.lst (ds ++ es))]⟩
theorem o_cat : OpR X (binaryOp .Add) rCat ∧ Up2 rCat rdCat := ⟨op_cat, by
  rintro B O σ H δ x y w u Qd Q R rx ry ⟨ds, es, p1, p2, hl, q⟩ L
  obtain ⟨a, xs, rfl, e1, l1⟩ := pk_vw R.st rx p1
  obtain ⟨b, ys, rfl, e2, l2⟩ := pk_vw R.st ry p2
  refine ⟨a, b, xs, ys, rfl, rfl, e1, e2, by rw [l1.len, l2.len]; exact hl, fun p n => ?_⟩
  obtain ⟨h1, h2, h3⟩ := R.new n (l1.app l2)
  exact L _ _ _ _ _ q h1 h2 h3⟩
def rdCatA : R2d := fun w u δ Q => ∃ ds es, w = .dat (.tup ds) ∧ u = .dat (.tup es) ∧ ds.length + es.length ≤ sizeLine ∧ Q (.dat (.tup (ds ++ es))) δ
theorem o_catA : OpR X (binaryOp .Add) (rCatA X.K) ∧ Up2 (rCatA X.K) rdCatA := ⟨op_catA, by
  rintro B O σ H δ x y w u Qd Q R rx ry ⟨ds, es, rfl, rfl, hl, q⟩ L
  have rx0 : Dv (Fz O δ.own H) x (.tup ds) := rx
  have ry0 : Dv (Fz O δ.own H) y (.tup es) := ry
  cases rx with
  | @tup a xs _ e1 l1 =>
    cases ry with
    | @tup b ys _ e2 l2 =>
      refine ⟨a, b, xs, ys, rfl, rfl, SqT.of e1.1, SqT.of e2.1, by rw [l1.len, l2.len]; exact hl, fun z => ?_, fun _ z => ?_, fun _ _ p n => ?_⟩
      · subst z
        cases l1
        exact L _ δ O _ H q .refl R ry0
      · subst z
        cases l2
        rw [List.append_nil] at q
        exact L _ δ O _ H q .refl R rx0
      · obtain ⟨h1, h2, h3⟩ := R.dat n (l1.app l2)
        exact L _ _ _ _ _ q h1 h2 h3⟩
def rdRep : R2d := fun w u δ Q => ∃ ds k, Pk δ.own w (.lst ds) ∧ u = .dat (.int k) ∧ -(2 ^ 63) ≤ k ∧ k < 2 ^ 63 ∧ ds.length * k.toNat ≤ sizeLine ∧ Q (.own δ.own.length) ⟨δ.slots, δ.own ++ [some (.lst (List.replicate k.toNat ds).flatten)]⟩
theorem DvAll.repF {P : FP} {xs : List V} {ds : List D} (l : DvAll P xs ds) : ∀ n, DvAll P (List.replicate n xs).flatten (List.replicate n ds).flatten
  | 0 => .nil
  | n + 1 => by
    rw [List.replicate_succ, List.replicate_succ, List.flatten_cons, List.flatten_cons]
    exact l.app (DvAll.repF l n)
theorem o_rep : OpR X (binaryOp .Mult) rRep ∧ Up2 rRep rdRep := ⟨op_rep, by
  rintro B O σ H δ x y w u Qd Q R rx ry ⟨ds, k, p1, rfl, h1, h2, hl, q⟩ L
  obtain ⟨a, xs, rfl, e1, l1⟩ := pk_vw R.st rx p1
  cases ry
  refine ⟨a, k, xs, rfl, rfl, e1, h1, h2, by rw [l1.len]; exact hl, fun p n => ?_⟩
  obtain ⟨h1, h2, h3⟩ := R.new n (l1.repF k.toNat)
  exact L _ _ _ _ _ q h1 h2 h3⟩
def rdAddS : R2d := fun w u δ Q => ∃ x y : Str, w = .dat (.str x) ∧ u = .dat (.str y) ∧ x.length + y.length ≤ sizeLine ∧ Q (.dat (.str (x ++ y))) δ
theorem o_adds : OpR X (binaryOp .Add) (fun x y H Q => ∃ i j, x = .str i ∧ y = .str j ∧ i.length + j.length ≤ sizeLine ∧ Q (.str (i ++ j)) H) ∧
    Up2 (fun x y H Q => ∃ i j, x = .str i ∧ y = .str j ∧ i.length + j.length ≤ sizeLine ∧ Q (.str (i ++ j)) H) rdAddS := ⟨op_add_str, by
  rintro B O σ H δ x y w u Qd Q R rx ry ⟨i, j, rfl, rfl, hl, q⟩ L
  cases rx
  cases ry
  exact ⟨i, j, rfl, rfl, hl, L _ δ O _ H q .refl R (.str _)⟩⟩

/-! ### items, slices -/
def rdIx : R2d := fun w u δ Q => ∃ i, u = .dat (.int i) ∧ ((∃ ds d, (Pk δ.own w (.lst ds) ∨ Pk δ.own w (.tup ds)) ∧ atI ds i = some d ∧ Q (.dat d) δ) ∨
  ∃ (z : Str) (c : _), w = .dat (.str z) ∧ z.length ≤ sizeLine ∧ atI z.cps.toList i = some c ∧ Q (.dat (.str ⟨#[c]⟩)) δ)
theorem atI_len {α β : Type} {xs : List α} {ys : List β} (h : xs.length = ys.length) {i : Int} {y : β} (e : atI ys i = some y) : ∃ j : Nat, atI xs i = xs[j]? ∧ ys[j]? = some y := by
  unfold atI at e ⊢
  rw [h]
  cases c : ixN ys.length i with
  | none => rw [c] at e; cases e
  | some j => rw [c] at e; exact ⟨j, rfl, e⟩
theorem v_ix_up (K : PySem.W.Frag) : Up2 (rIx K) rdIx := by
  rintro B O σ H δ x y w u Qd Q R rx ry ⟨i, rfl, h⟩ L
  cases ry
  rcases h with ⟨ds, d, p1, e, q⟩ | ⟨z, c, rfl, hl, e, q⟩
  · rcases p1 with p1 | p1
    · obtain ⟨a, xs, rfl, e1, l1⟩ := pk_vw R.st rx p1
      obtain ⟨j, e2, e3⟩ := atI_len l1.len e
      obtain ⟨v, e4, hv⟩ := l1.get e3
      exact .inl ⟨a, xs, i, v, rfl, rfl, SqL.of e1, e2.trans e4, L _ δ O _ H q .refl R hv⟩
    · obtain ⟨a, xs, rfl, e1, l1⟩ := pk_vw R.st rx p1
      obtain ⟨j, e2, e3⟩ := atI_len l1.len e
      obtain ⟨v, e4, hv⟩ := l1.get e3
      exact .inr (.inl ⟨a, xs, i, v, rfl, rfl, SqT.of e1, e2.trans e4, L _ δ O _ H q .refl R hv⟩)
  · cases rx
    exact .inr (.inr ⟨z, i, c, rfl, rfl, hl, e, L _ δ O _ H q .refl R (.str _)⟩)
variable {B : Base} {a b e : Expr} {pos : Pos} {ta tb tc : DE}
theorem v_ix (ha : PE X a (upE B ta)) (hb : PE X b (upE B tb)) (hs : PlainIx b := by exact (fun _ _ => rfl)) : PE X (.Subscript a b pos) (upE B (d2 rdIx ta tb)) := pe_imp (pe_ix ix_seq ha hb hs) (up2 (v_ix_up _))
abbrev DO := DS → (Option Int → DS → Prop) → Prop
def dPart (t : DE) : DO := fun δ Q => t δ fun w δ1 => ∃ i, w = .dat (.int i) ∧ Q (some i) δ1
def dNoPart : DO := fun δ Q => Q none δ
def upO (B : Base) (td : DO) : TO := fun σ H Q => ∃ (O : List Addr) (δ : DS) (Qd : Option Int → DS → Prop), Rel B O σ H δ ∧ td δ Qd ∧ ∀ (b : Option Int) (δ' : DS) (O' : List Addr) (H' : Hp), Qd b δ' → Ext O δ.own H O' δ'.own H' → Rel B O' σ H' δ' → Q b H'
theorem po_imp {x : Option Expr} {t t' : TO} (h : PO X x t) (i : ∀ σ H Q, t' σ H Q → t σ H Q) : PO X x t' := ⟨fun pins s σ H Q I q => h.run pins s σ H Q I (i σ H Q q)⟩
theorem vo_none : PO X none (upO B dNoPart) := po_imp po_none fun σ H Q ⟨O, δ, Qd, R, h, L⟩ => L none δ O H h .refl R
theorem vo_some (h : PE X e (upE B ta)) : PO X (some e) (upO B (dPart ta)) := po_imp (po_some h) fun σ H Q ⟨O, δ, Qd, R, h, L⟩ =>
  ⟨O, δ, _, R, h, fun w δ1 O1 v H1 ⟨i, ew, q⟩ e1 R1 r1 => by
    subst ew
    cases r1
    exact ⟨i, rfl, L _ δ1 O1 H1 q e1 R1⟩⟩
/-- a slice's part of a list -/
def cutD (ds : List D) (lo hi : Option Int) : List D := (ds.drop (HT.sIx ds.length 0 lo)).take (HT.sIx ds.length ds.length hi - HT.sIx ds.length 0 lo)
theorem DvAll.cut {P : FP} {xs : List V} {ds : List D} (l : DvAll P xs ds) (lo hi : Option Int) : DvAll P (cutV xs lo hi) (cutD ds lo hi) := by
  unfold cutV cutD
  rw [l.len]
  exact (l.drop _).take _
abbrev RSd := W → Option Int → Option Int → DS → (W → DS → Prop) → Prop
def dSl (r : RSd) (te : DE) (tl th : DO) : DE := fun δ Q => te δ fun x δ1 => tl δ1 fun l δ2 => th δ2 fun u δ3 => r x l u δ3 Q
def UpSl (r : V → Option Int → Option Int → Hp → VK → Prop) (rd : RSd) : Prop := ∀ (B : Base) (O : List Addr) (σ : L2.St) (H : Hp) (δ : DS) (x : V) (w : W) (lo hi : Option Int) (Qd : W → DS → Prop) (Q : VK),
  Rel B O σ H δ → WR O δ.own H x w → rd w lo hi δ Qd → Lk B O σ H δ Qd Q → r x lo hi H Q
theorem v_slice {r : V → Option Int → Option Int → Hp → VK → Prop} {rd : RSd} {lo hi : Option Expr} {tl th : DO} {p2 : Pos} (hr : SlR X r ∧ UpSl r rd) (he : PE X e (upE B ta)) (hl : PO X lo (upO B tl)) (hh : PO X hi (upO B th)) :
    PE X (.Subscript e (.Slice lo hi none p2) pos) (upE B (dSl rd ta tl th)) := pe_imp (pe_slice hr.1 he hl hh) fun σ H Q ⟨O, δ, Qd, R, h, L⟩ =>
  ⟨O, δ, _, R, h, fun w δ1 O1 v H1 q e1 R1 r1 => ⟨O1, δ1, _, R1, q, fun l δ2 O2 H2 q2 e2 R2 => ⟨O2, δ2, _, R2, q2, fun u δ3 O3 H3 q3 e3 R3 =>
    hr.2 B O3 σ H3 δ3 v w l u Qd Q R3 (r1.ext (e2.trans e3)) q3 (L.ext ((e1.trans e2).trans e3))⟩⟩⟩
def rdSlL : RSd := fun w lo hi δ Q => ∃ ds, Pk δ.own w (.lst ds) ∧ Q (.own δ.own.length) ⟨δ.slots, δ.own ++ [some (.lst (cutD ds lo hi))]⟩
def rdSlT : RSd := fun w lo hi δ Q => ∃ ds, w = .dat (.tup ds) ∧ Q (.dat (.tup (cutD ds lo hi))) δ
theorem s_list : SlR X (rSlL X.K) ∧ UpSl (rSlL X.K) rdSlL := ⟨sl_list, by
  rintro B O σ H δ x w lo hi Qd Q R rx ⟨ds, p1, q⟩ L
  obtain ⟨a, xs, rfl, e1, l1⟩ := pk_vw R.st rx p1
  refine ⟨a, xs, rfl, SqL.of e1, fun p n => ?_⟩
  obtain ⟨h1, h2, h3⟩ := R.new n (l1.cut lo hi)
  exact L _ _ _ _ _ q h1 h2 h3⟩
theorem s_tup : SlR X (rSlA X.K) ∧ UpSl (rSlA X.K) rdSlT := ⟨sl_tupA, by
  rintro B O σ H δ x w lo hi Qd Q R rx ⟨ds, rfl, q⟩ L
  have rx0 : Dv (Fz O δ.own H) x (.tup ds) := rx
  cases rx with
  | @tup a xs _ e1 l1 =>
    refine ⟨a, xs, rfl, SqT.of e1.1, fun z => ?_, fun _ p n => ?_⟩
    · have e : cutD ds lo hi = ds := by
        unfold cutD
        rw [← l1.len, z.1, z.2, l1.len]
        simp
      rw [e] at q
      exact L _ δ O _ H q .refl R rx0
    · obtain ⟨h1, h2, h3⟩ := R.dat n (l1.cut lo hi)
      exact L _ _ _ _ _ q h1 h2 h3⟩
end
end Va

set_option maxRecDepth 100000
set_option maxHeartbeats 2000000
namespace Va
open PySem PySem.Spec PyProof.Rows L2 Fd

/-! ### what is owned becomes data -/
def sub (k : Nat) (ob : Ob) : Option W → Option W
  | some (.own j) => if j = k then some (.dat (obD ob)) else some (.own j)
  | x => x
def frzS (k : Nat) (ob : Ob) (δ : DS) : DS := ⟨δ.slots.map (sub k ob), δ.own.set k none⟩
def toD : W → DS → (D → DS → Prop) → Prop
  | .dat d, δ, Q => Q d δ
  | .own k, δ, Q => ∃ ob sl, δ.own[k]? = some (some ob) ∧ δ.slots.map (sub k ob) = sl ∧ Q (obD ob) ⟨sl, δ.own.set k none⟩
def toDs : List W → DS → (List D → DS → Prop) → Prop
  | [], δ, Q => Q [] δ
  | w :: ws, δ, Q => toD w δ fun d δ1 => toDs ws δ1 fun ds δ2 => Q (d :: ds) δ2
section
variable {B : Base} {O : List Addr} {σ : L2.St} {H : Hp} {δ : DS}
theorem Rel.frz {k : Nat} {ob : Ob} (R : Rel B O σ H δ) (e : δ.own[k]? = some (some ob)) : Rel B O σ H (frzS k ob δ) ∧ Ext O δ.own H O (frzS k ob δ).own H := by
  obtain ⟨h1, h2⟩ := own_drop (k := k) R.st
  refine ⟨⟨h1, R.bs.trans h2, fun i w es => ?_, by rw [← R.ln]; exact List.length_map ..⟩, h2⟩
  have es : (δ.slots.map (sub k ob))[i]? = some (some w) := es
  rw [List.getElem?_map] at es
  cases c : δ.slots[i]? with
  | none => rw [c] at es; cases es
  | some x =>
    rw [c] at es
    have es : sub k ob x = some w := Option.some.inj es
    cases x with
    | none => cases es
    | some u =>
      obtain ⟨v, h3, h4⟩ := R.sl i u c
      refine ⟨v, h3, ?_⟩
      cases u with
      | dat d =>
        cases es
        exact h4.ext h2
      | own j =>
        by_cases ej : j = k
        · subst ej
          have es : (if j = j then some (W.dat (obD ob)) else some (.own j)) = some w := es
          rw [if_pos rfl] at es
          cases es
          obtain ⟨a, h5, rfl⟩ := h4
          exact own_frz R.st h5 e
        · have es : (if j = k then some (W.dat (obD ob)) else some (.own j)) = some w := es
          rw [if_neg ej] at es
          cases es
          exact h4.ext h2
theorem toD_ok {v : V} {w : W} {Q : D → DS → Prop} (R : Rel B O σ H δ) (r : WR O δ.own H v w) (h : toD w δ Q) : ∃ d δ', Q d δ' ∧ Rel B O σ H δ' ∧ Ext O δ.own H O δ'.own H ∧ Dv (Fz O δ'.own H) v d := by
  cases w with
  | dat d => exact ⟨d, δ, h, R, .refl, r⟩
  | own k =>
    obtain ⟨ob, sl, e, es, q⟩ := h
    subst es
    obtain ⟨R1, e1⟩ := R.frz e
    obtain ⟨a, h5, rfl⟩ := r
    exact ⟨_, _, q, R1, e1, own_frz R.st h5 e⟩
theorem toDs_ok : ∀ {ws : List W} {vs : List V} {δ : DS} {Q : List D → DS → Prop}, Rel B O σ H δ → WRs O δ.own H vs ws → toDs ws δ Q → ∃ ds δ', Q ds δ' ∧ Rel B O σ H δ' ∧ Ext O δ.own H O δ'.own H ∧ DvAll (Fz O δ'.own H) vs ds
  | [], _, δ, Q, R, r, h => by
    cases r
    exact ⟨[], δ, h, R, .refl, .nil⟩
  | w :: ws, _, δ, Q, R, r, h => by
    cases r with
    | cons r1 r2 =>
      obtain ⟨d, δ1, q1, R1, e1, h1⟩ := toD_ok R r1 h
      obtain ⟨ds, δ2, q2, R2, e2, h2⟩ := toDs_ok R1 (r2.ext e1) q1
      exact ⟨_, δ2, q2, R2, e1.trans e2, .cons (h1.k e2.fz) h2⟩
end

/-! ### arguments, displays -/
def dNil : DA := fun δ Q => Q [] δ
def dCons (ta : DE) (tr : DA) : DA := fun δ Q => ta δ fun w δ1 => tr δ1 fun ws δ2 => Q (w :: ws) δ2
section
variable {X : Cx} {B : Base} {e a b o : Expr} {es : List Expr} {st : Stmt} {pos : Pos} {ta tb to : DE} {t tr : DA}
theorem LkA.ext {O O1 : List Addr} {σ : L2.St} {H H1 : Hp} {δ δ1 : DS} {Qd : List W → DS → Prop} {Q : List V → Hp → Prop} (l : LkA B O σ H δ Qd Q) (e : Ext O δ.own H O1 δ1.own H1) : LkA B O1 σ H1 δ1 Qd Q :=
  fun b δ' O' v H' q e' r h => l b δ' O' v H' q (e.trans e') r h
theorem va_nil : PA X [] (upA B dNil) := pa_imp pa_nil fun σ H Q ⟨O, δ, Qd, R, h, L⟩ => L [] δ O [] H h .refl R .nil
theorem va_cons (ha : PE X e (upE B ta)) (hr : PA X es (upA B tr)) (hs : starEach (e :: es) X.env = (false, eval e X.env) :: starEach es X.env := by rfl) : PA X (e :: es) (upA B (dCons ta tr)) :=
  pa_imp (pa_cons ha hr hs) fun σ H Q ⟨O, δ, Qd, R, h, L⟩ => ⟨O, δ, _, R, h, fun w δ1 O1 v H1 q e1 R1 r1 => ⟨O1, δ1, _, R1, q, fun ws δ2 O2 vs H2 q2 e2 R2 r2 => L _ δ2 O2 _ H2 q2 (e1.trans e2) R2 (.cons (r1.ext e2) r2)⟩⟩
def dTup (t : DA) : DE := fun δ Q => t δ fun ws δ1 => ws.length ≤ sizeLine ∧ toDs ws δ1 fun ds δ2 => Q (.dat (.tup ds)) δ2
def dLst (t : DA) : DE := fun δ Q => t δ fun ws δ1 => ws.length ≤ sizeLine ∧ toDs ws δ1 fun ds δ2 => Q (.own δ2.own.length) ⟨δ2.slots, δ2.own ++ [some (.lst ds)]⟩
theorem v_tup {x1} (h : PA X es (upA B t)) : PE X (.Tuple es x1 pos) (upE B (dTup t)) := pe_imp (pe_tup h) fun σ H Q ⟨O, δ, Qd, R, h, L⟩ => ⟨O, δ, _, R, h, fun ws δ1 O1 vs H1 ⟨hl, q⟩ e1 R1 r1 => ⟨by rw [r1.len]; exact hl, fun p n => by
  obtain ⟨ds, δ2, q2, R2, e2, l⟩ := toDs_ok R1 r1 q
  obtain ⟨h1, h2, h3⟩ := R2.dat n l
  exact L _ _ _ _ _ q2 ((e1.trans e2).trans h1) h2 h3⟩⟩
theorem v_lst (h : PA X es (upA B t)) : PE X (.List es pos) (upE B (dLst t)) := pe_imp (pe_lst h) fun σ H Q ⟨O, δ, Qd, R, h, L⟩ => ⟨O, δ, _, R, h, fun ws δ1 O1 vs H1 ⟨hl, q⟩ e1 R1 r1 => ⟨by rw [r1.len]; exact hl, fun p n => by
  obtain ⟨ds, δ2, q2, R2, e2, l⟩ := toDs_ok R1 r1 q
  obtain ⟨h1, h2, h3⟩ := R2.new n l
  exact L _ _ _ _ _ q2 ((e1.trans e2).trans h1) h2 h3⟩⟩

/-- data from here on -/
def dFrz (ta : DE) : DE := fun δ Q => ta δ fun w δ1 => toD w δ1 fun d δ2 => Q (.dat d) δ2
theorem v_frz (ha : PE X e (upE B ta)) : PE X e (upE B (dFrz ta)) := pe_imp ha fun σ H Q ⟨O, δ, Qd, R, h, L⟩ => ⟨O, δ, _, R, h, fun w δ1 O1 v H1 q e1 R1 r1 => by
  obtain ⟨d, δ2, q2, R2, e2, hd⟩ := toD_ok R1 r1 q
  exact L _ δ2 O1 v H1 q2 (e1.trans e2) R2 hd⟩
/-! ### built-in functions -/
abbrev RCd := List W → DS → (W → DS → Prop) → Prop
def dCB (rd : RCd) (t : DA) : DE := fun δ Q => t δ fun ws δ1 => rd ws δ1 Q
def UpC (r : List V → Hp → VK → Prop) (rd : RCd) : Prop := ∀ (B : Base) (O : List Addr) (σ : L2.St) (H : Hp) (δ : DS) (vs : List V) (ws : List W) (Qd : W → DS → Prop) (Q : VK),
  Rel B O σ H δ → WRs O δ.own H vs ws → rd ws δ Qd → Lk B O σ H δ Qd Q → r vs H Q
theorem v_cb {r : List V → Hp → VK → Prop} {rd : RCd} (up : UpC r rd) (h : PE X e (tCB r (upA B t))) : PE X e (upE B (dCB rd t)) := pe_imp h fun σ H Q ⟨O, δ, Qd, R, h, L⟩ =>
  ⟨O, δ, _, R, h, fun ws δ1 O1 vs H1 q e1 R1 r1 => up B O1 σ H1 δ1 vs ws Qd Q R1 r1 q (L.ext e1)⟩
theorem WRs.one {O : List Addr} {S : Own} {H : Hp} {vs : List V} {w : W} (h : WRs O S H vs [w]) : ∃ v, vs = [v] ∧ WR O S H v w := by
  cases h with
  | cons a b => cases b; exact ⟨_, rfl, a⟩
theorem WRs.two {O : List Addr} {S : Own} {H : Hp} {vs : List V} {w u : W} (h : WRs O S H vs [w, u]) : ∃ v x, vs = [v, x] ∧ WR O S H v w ∧ WR O S H x u := by
  cases h with
  | cons a b =>
    obtain ⟨x, rfl, c⟩ := b.one
    exact ⟨_, _, rfl, a, c⟩
/-- a list or a tuple of these -/
def PkS (S : Own) (w : W) (ds : List D) : Prop := Pk S w (.lst ds) ∨ Pk S w (.tup ds)
def LenW (S : Own) (w : W) (n : Nat) : Prop := (∃ ds, PkS S w ds ∧ n = ds.length) ∨ ∃ z : Str, w = .dat (.str z) ∧ z.length ≤ sizeLine ∧ n = z.length
def rdLen : RCd := fun ws δ Q => ∃ w n, ws = [w] ∧ LenW δ.own w n ∧ Q (.dat (.int (n : Nat))) δ
theorem up_len {K : PySem.W.Frag} : UpC (fun xs H Q => ∃ x n, xs = [x] ∧ LenV K x H n ∧ Q (.int (n : Nat)) H) rdLen := by
  rintro B O σ H δ vs ws Qd Q R rs ⟨w, n, rfl, hn, q⟩ L
  obtain ⟨v, rfl, r⟩ := rs.one
  have fin : LenV K v H n → _ := fun h => (⟨v, n, rfl, h, L _ δ O _ H q .refl R (.int _)⟩ : ∃ x n, [v] = [x] ∧ LenV K x H n ∧ Q (.int (n : Nat)) H)
  rcases hn with ⟨ds, p | p, rfl⟩ | ⟨z, rfl, hz, rfl⟩
  · obtain ⟨a, xs, rfl, e, l⟩ := pk_vw R.st r p
    exact fin (.inl ⟨xs, SqL.of e, l.len.symm⟩)
  · obtain ⟨a, xs, rfl, e, l⟩ := pk_vw R.st r p
    exact fin (.inr ⟨xs, SqT.of e, l.len.symm⟩)
  · cases r
    exact fin ⟨hz, rfl⟩
def rdList : RCd := fun ws δ Q => ∃ w ds, ws = [w] ∧ PkS δ.own w ds ∧ Q (.own δ.own.length) ⟨δ.slots, δ.own ++ [some (.lst ds)]⟩
theorem up_list {K : PySem.W.Frag} : UpC (fun xs H Q => ∃ p ys, xs = [.ref p] ∧ (SqL K H p ys ∨ SqT K H p ys) ∧ ∀ l, H l = none → Q (.ref l) (upd H l (.lst ys))) rdList := by
  rintro B O σ H δ vs ws Qd Q R rs ⟨w, ds, rfl, p, q⟩ L
  obtain ⟨v, rfl, r⟩ := rs.one
  rcases p with p | p
  · obtain ⟨a, xs, rfl, e, l⟩ := pk_vw R.st r p
    refine ⟨a, xs, rfl, .inl (SqL.of e), fun p n => ?_⟩
    obtain ⟨h1, h2, h3⟩ := R.new n l
    exact L _ _ _ _ _ q h1 h2 h3
  · obtain ⟨a, xs, rfl, e, l⟩ := pk_vw R.st r p
    refine ⟨a, xs, rfl, .inr (SqT.of e), fun p n => ?_⟩
    obtain ⟨h1, h2, h3⟩ := R.new n l
    exact L _ _ _ _ _ q h1 h2 h3
def rdTuple : RCd := fun ws δ Q => ∃ w ds, ws = [w] ∧ PkS δ.own w ds ∧ Q (.dat (.tup ds)) δ
theorem up_tuple {K : PySem.W.Frag} : UpC (fun xs H Q => ∃ p ys, xs = [.ref p] ∧ ((SqL K H p ys ∧ ∀ l, H l = none → Q (.ref l) (upd H l (.tup ys))) ∨ (SqT K H p ys ∧ Q (.ref p) H))) rdTuple := by
  rintro B O σ H δ vs ws Qd Q R rs ⟨w, ds, rfl, p, q⟩ L
  obtain ⟨v, rfl, r⟩ := rs.one
  rcases p with p | p
  · obtain ⟨a, xs, rfl, e, l⟩ := pk_vw R.st r p
    refine ⟨a, xs, rfl, .inl ⟨SqL.of e, fun p n => ?_⟩⟩
    obtain ⟨h1, h2, h3⟩ := R.dat n l
    exact L _ _ _ _ _ q h1 h2 h3
  · cases w with
    | dat d =>
      cases p
      have r0 := r
      cases r with
      | tup e l => exact ⟨_, _, rfl, .inr ⟨SqT.of e.1, L _ δ O _ H q .refl R r0⟩⟩
    | own k =>
      obtain ⟨ob, e, z⟩ := p
      exact absurd z.symm (obD_tup ob _)
def rdInt : RCd := fun ws δ Q => (∃ i, ws = [.dat (.int i)] ∧ Q (.dat (.int i)) δ) ∨ ∃ k : Bool, ws = [.dat (.bl k)] ∧ Q (.dat (.int (if k then 1 else 0))) δ
theorem up_int : UpC (fun xs H Q => (∃ i, xs = [.int i] ∧ Q (.int i) H) ∨ ∃ k : Bool, xs = [.bl k] ∧ Q (.int (if k then 1 else 0)) H) rdInt := by
  rintro B O σ H δ vs ws Qd Q R rs h L
  rcases h with ⟨i, rfl, q⟩ | ⟨k, rfl, q⟩
  · obtain ⟨v, rfl, r⟩ := rs.one
    cases r
    exact .inl ⟨i, rfl, L _ δ O _ H q .refl R (.int _)⟩
  · obtain ⟨v, rfl, r⟩ := rs.one
    cases r
    exact .inr ⟨k, rfl, L _ δ O _ H q .refl R (.int _)⟩
def rdStr : RCd := fun ws δ Q => ∃ i : Int, ws = [.dat (.int i)] ∧ i.natAbs.log2 < 1920 ∧ Q (.dat (.str (toString i))) δ
theorem up_str : UpC (fun xs H Q => ∃ i : Int, xs = [.int i] ∧ i.natAbs.log2 < 1920 ∧ Q (.str (toString i)) H) rdStr := by
  rintro B O σ H δ vs ws Qd Q R rs ⟨i, rfl, hl, q⟩ L
  obtain ⟨v, rfl, r⟩ := rs.one
  cases r
  exact ⟨i, rfl, hl, L _ δ O _ H q .refl R (.str _)⟩

/-! ### methods of lists -/
def PkO (S : Own) (w : W) (ds : List D) : Prop := ∃ k, w = .own k ∧ S[k]? = some (some (.lst ds))
def dApp (to : DE) (t : DA) : DE := fun δ Q => to δ fun w δ1 => ∃ k ds0, w = .own k ∧ δ1.own[k]? = some (some (.lst ds0)) ∧ t δ1 fun ws δ2 => ∃ u, ws = [u] ∧ toD u δ2 fun d δ3 => ∃ ds, δ3.own[k]? = some (some (.lst ds)) ∧ ds.length < sizeLine ∧ Q (.dat .non) ⟨δ3.slots, δ3.own.set k (some (.lst (ds ++ [d])))⟩
theorem Rel.mut {O : List Addr} {σ : L2.St} {H : Hp} {δ : DS} {k : Nat} {a : Addr} {ds ds' : List D} {xs' : List V} (R : Rel B O σ H δ) (ha : O[k]? = some a) (e : δ.own[k]? = some (some (.lst ds))) (l : DvAll (Fz O δ.own H) xs' ds') :
    Ext O δ.own H O (δ.own.set k (some (.lst ds'))) (upd H a (.lst xs')) ∧ Rel B O σ (upd H a (.lst xs')) ⟨δ.slots, δ.own.set k (some (.lst ds'))⟩ := by
  obtain ⟨h1, h2⟩ := own_set (ob' := .lst ds') (o := .lst xs') R.st ha e ⟨xs', upd_same, l⟩
  exact ⟨h2, R.to h1 h2⟩
theorem Rel.lst {O : List Addr} {σ : L2.St} {H : Hp} {δ : DS} {k : Nat} {v : V} {ds : List D} (R : Rel B O σ H δ) (r : WR O δ.own H v (.own k)) (e : δ.own[k]? = some (some (.lst ds))) : ∃ a xs, v = .ref a ∧ O[k]? = some a ∧ H a = some (.lst xs) ∧ DvAll (Fz O δ.own H) xs ds := by
  obtain ⟨a, h1, rfl⟩ := r
  obtain ⟨b, h2, xs, h3, h4⟩ := R.st.ob k _ e
  rw [h1] at h2
  cases h2
  exact ⟨a, xs, rfl, h1, h3, h4⟩
theorem up_app (σ : L2.St) (H : Hp) (Q : VK) : upE B (dApp to t) σ H Q → tBM X.K "list" rAppend (upE B to) (upA B t) σ H Q := fun ⟨O, δ, Qd, R, h, L⟩ => by
  refine ⟨O, δ, _, R, h, fun w δ1 O1 v H1 ⟨k, ds0, ew, es, q⟩ e1 R1 r1 => ?_⟩
  subst ew
  obtain ⟨a, xs, rfl, ha, hh, _⟩ := R1.lst r1 es
  refine ⟨.inl ⟨rfl, xs, SqL.of hh⟩, O1, δ1, _, R1, q, fun ws δ2 O2 vs H2 ⟨u, ew, q2⟩ e2 R2 r2 => ?_⟩
  subst ew
  obtain ⟨x, rfl, rx⟩ := r2.one
  obtain ⟨d, δ3, ⟨ds, es3, hl, q3⟩, R3, e3, hd⟩ := toD_ok R2 rx q2
  have r3 := r1.ext (e2.trans e3)
  obtain ⟨a', ys, ea, ha3, hh3, l3⟩ := R3.lst r3 es3
  cases ea
  refine ⟨a, ys, x, rfl, rfl, hh3, by rw [l3.len]; exact hl, ?_⟩
  obtain ⟨h1, h2⟩ := R3.mut (xs' := ys ++ [x]) ha3 es3 (l3.app (.cons hd .nil))
  exact L _ _ _ _ _ q3 (((e1.trans e2).trans e3).trans h1) h2 .non
def dExt (to : DE) (t : DA) : DE := fun δ Q => to δ fun w δ1 => ∃ k ds0, w = .own k ∧ δ1.own[k]? = some (some (.lst ds0)) ∧ t δ1 fun ws δ2 => ∃ u es ds, ws = [u] ∧ Pk δ2.own u (.lst es) ∧ δ2.own[k]? = some (some (.lst ds)) ∧ ds.length + es.length ≤ sizeLine ∧ Q (.dat .non) ⟨δ2.slots, δ2.own.set k (some (.lst (ds ++ es)))⟩
theorem up_ext (σ : L2.St) (H : Hp) (Q : VK) : upE B (dExt to t) σ H Q → tBM X.K "list" rExtend (upE B to) (upA B t) σ H Q := fun ⟨O, δ, Qd, R, h, L⟩ => by
  refine ⟨O, δ, _, R, h, fun w δ1 O1 v H1 ⟨k, ds0, ew, es, q⟩ e1 R1 r1 => ?_⟩
  subst ew
  obtain ⟨a, xs, rfl, ha, hh, _⟩ := R1.lst r1 es
  refine ⟨.inl ⟨rfl, xs, SqL.of hh⟩, O1, δ1, _, R1, q, fun ws δ2 O2 vs H2 ⟨u, es2, ds, ew, p2, es3, hl, q3⟩ e2 R2 r2 => ?_⟩
  subst ew
  obtain ⟨x, rfl, rx⟩ := r2.one
  obtain ⟨b, zs, rfl, eb, lb⟩ := pk_vw R2.st rx p2
  obtain ⟨a', ys, ea, ha3, hh3, l3⟩ := R2.lst (r1.ext e2) es3
  cases ea
  refine ⟨a, b, ys, zs, rfl, rfl, hh3, eb, by rw [l3.len, lb.len]; exact hl, ?_⟩
  obtain ⟨h1, h2⟩ := R2.mut (xs' := ys ++ zs) ha3 es3 (l3.app lb)
  exact L _ _ _ _ _ q3 ((e1.trans e2).trans h1) h2 .non
theorem v_app (h : PE X e (tBM X.K "list" rAppend (upE B to) (upA B t))) : PE X e (upE B (dApp to t)) := pe_imp h up_app
theorem v_ext (h : PE X e (tBM X.K "list" rExtend (upE B to) (upA B t))) : PE X e (upE B (dExt to t)) := pe_imp h up_ext

/-! ### targets -/
abbrev DG := W → DS → (DS → Prop) → Prop
abbrev DGs := List W → DS → (DS → Prop) → Prop
def upG (B : Base) (g : DG) : TG := fun v σ H Q => ∃ (O : List Addr) (δ : DS) (w : W) (Qd : DS → Prop), Rel B O σ H δ ∧ WR O δ.own H v w ∧ g w δ Qd ∧ ∀ (δ' : DS) (O' : List Addr) (σ' : L2.St) (H' : Hp), Qd δ' → Ext O δ.own H O' δ'.own H' → Rel B O' σ' H' δ' → Q σ' H'
def upGs (B : Base) (g : DGs) : TGs := fun vs σ H Q => ∃ (O : List Addr) (δ : DS) (ws : List W) (Qd : DS → Prop), Rel B O σ H δ ∧ WRs O δ.own H vs ws ∧ g ws δ Qd ∧ ∀ (δ' : DS) (O' : List Addr) (σ' : L2.St) (H' : Hp), Qd δ' → Ext O δ.own H O' δ'.own H' → Rel B O' σ' H' δ' → Q σ' H'
theorem pg_imp {tg : Expr} {t t' : TG} (h : PG X tg t) (i : ∀ v σ H Q, t' v σ H Q → t v σ H Q) : PG X tg t' := ⟨fun pins s σ H v u Q I r q => h.run pins s σ H v u Q I r (i v σ H Q q)⟩
theorem pgs_imp {ts : List Expr} {t t' : TGs} (h : PGs X ts t) (i : ∀ v σ H Q, t' v σ H Q → t v σ H Q) : PGs X ts t' := ⟨fun pins s σ H v u Q I r q => h.run pins s σ H v u Q I r (i v σ H Q q)⟩
def dgName (i : Nat) : DG := fun w δ Q => Q ⟨δ.slots.set i (some w), δ.own⟩
def dgNil : DGs := fun ws δ Q => ws = [] ∧ Q δ
def dgCons (g : DG) (r : DGs) : DGs := fun ws δ Q => ∃ w us, ws = w :: us ∧ g w δ fun δ1 => r us δ1 Q
def dgTup (n : Nat) (r : DGs) : DG := fun w δ Q => ∃ ds, w = .dat (.tup ds) ∧ ds.length = n ∧ r (ds.map W.dat) δ Q
variable {g : DG} {gs : DGs} {tg : Expr} {tgs : List Expr}
theorem vg_name {i : Nat} (h : PG X tg (gName i)) : PG X tg (upG B (dgName i)) := pg_imp h fun v σ H Q ⟨O, δ, w, Qd, R, r, q, L⟩ => L _ O _ H q .refl (R.set i r)
theorem vgs_nil : PGs X [] (upGs B dgNil) := pgs_imp pgs_nil fun vs σ H Q ⟨O, δ, ws, Qd, R, r, ⟨e, q⟩, L⟩ => by
  subst e
  cases r
  exact ⟨rfl, L δ O σ H q .refl R⟩
theorem vgs_cons (h1 : PG X e (upG B g)) (h2 : PGs X es (upGs B gs)) (hs : (assignEach (e :: es) X.env).map (·.2) = assign e X.env :: (assignEach es X.env).map (·.2) := by rfl) : PGs X (e :: es) (upGs B (dgCons g gs)) := pgs_imp (pgs_cons h1 h2 hs) fun vs σ H Q ⟨O, δ, ws, Qd, R, r, ⟨w, us, ew, q⟩, L⟩ => by
  subst ew
  cases r with
  | cons r1 r2 => exact ⟨_, _, rfl, O, δ, w, _, R, r1, q, fun δ1 O1 σ1 H1 q1 e1 R1 => ⟨O1, δ1, us, Qd, R1, r2.ext e1, q1, fun δ2 O2 σ2 H2 q2 e2 R2 => L δ2 O2 σ2 H2 q2 (e1.trans e2) R2⟩⟩
theorem WRs.dats {O : List Addr} {S : Own} {H : Hp} : ∀ {vs : List V} {ds : List D}, DvAll (Fz O S H) vs ds → WRs O S H vs (ds.map W.dat)
  | _, _, .nil => .nil
  | _, _, .cons a b => .cons a (WRs.dats b)
theorem vg_tup {n : Nat} (h : PG X tg (gTup X.K n (upGs B gs))) : PG X tg (upG B (dgTup n gs)) := pg_imp h fun v σ H Q ⟨O, δ, w, Qd, R, r, ⟨ds, ew, hl, q⟩, L⟩ => by
  subst ew
  cases r with
  | tup e l => exact ⟨_, _, rfl, SqT.of e.1, by rw [l.len]; exact hl, O, δ, _, Qd, R, .dats l, q, L⟩
def dgSub (to ti : DE) : DG := fun v δ Q => to δ fun o δ1 => ti δ1 fun i δ2 => ∃ k j n ds0, o = .own k ∧ i = .dat (.int j) ∧ δ2.own[k]? = some (some (.lst ds0)) ∧ ixN ds0.length j = some n ∧ toD v δ2 fun d δ3 => ∃ ds, δ3.own[k]? = some (some (.lst ds)) ∧ ds.length = ds0.length ∧ Q ⟨δ3.slots, δ3.own.set k (some (.lst (ds.set n d)))⟩
theorem vg_sub (h : PG X tg (gSub (upE B to) (upE B ta) rSetL)) : PG X tg (upG B (dgSub to ta)) := pg_imp h fun v σ H Q ⟨O, δ, w, Qd, R, r, q, L⟩ => by
  refine ⟨O, δ, _, R, q, fun ow δ1 O1 o H1 q1 e1 R1 r1 => ⟨O1, δ1, _, R1, q1, fun iw δ2 O2 i H2 ⟨k, j, n, ds0, eo, ei, es, en, q2⟩ e2 R2 r2 => ?_⟩⟩
  subst eo ei
  cases r2
  obtain ⟨d, δ3, ⟨ds, es3, hl, q3⟩, R3, e3, hd⟩ := toD_ok R2 (r.ext (e1.trans e2)) q2
  obtain ⟨a, ys, rfl, ha3, hh3, l3⟩ := R3.lst (r1.ext (e2.trans e3)) es3
  refine ⟨a, ys, j, n, rfl, rfl, hh3, by rw [l3.len, hl]; exact en, ?_⟩
  obtain ⟨h1, h2⟩ := R3.mut (xs' := ys.set n v) ha3 es3 (l3.set n hd)
  exact L _ _ _ _ q3 (((e1.trans e2).trans e3).trans h1) h2
def dAsg (te : DE) (g : DG) : DP := fun E δ => te δ fun w δ1 => g w δ1 E.nx
theorem v_asg (hs : PS X st (tAsg (upE B ta) (upG B g))) : PS X st (upS B (dAsg ta g)) := ps_imp hs fun E σ H ⟨O, δ, Dd, R, h, L⟩ =>
  ⟨O, δ, _, R, h, fun w δ1 O1 v H1 q e R1 r1 => ⟨O1, δ1, w, _, R1, r1, q, fun δ2 O2 σ2 H2 q2 e2 R2 => L.nx δ2 O2 σ2 H2 q2 (e.trans e2) R2⟩⟩

/-! ### loops -/
def dLoop (n : Nat) (x : Nat → D) (g : DG) (tb : DP) : DP := fun E δ => ∃ Pv : Nat → DS → Prop, Pv 0 δ ∧
  (∀ i δ, i < n → Pv i δ → g (.dat (x i)) δ fun δ2 => tb { E with nx := Pv (i + 1), ct := Pv (i + 1), bk := E.nx } δ2) ∧ ∀ δ, Pv n δ → E.nx δ
def dLoopS (ds : List D) (g : DG) (tb : DP) : DP := fun E δ => ∃ Pv : Nat → DS → Prop, Pv 0 δ ∧
  (∀ i d δ, ds[i]? = some d → Pv i δ → g (.dat d) δ fun δ2 => tb { E with nx := Pv (i + 1), ct := Pv (i + 1), bk := E.nx } δ2) ∧ ∀ δ, Pv ds.length δ → E.nx δ
def dFor (tl : DE) (g : DG) (tb : DP) : DP := fun E δ => tl δ fun w δ1 => toD w δ1 fun d δ2 => ∃ ds, (d = .lst ds ∨ d = .tup ds) ∧ dLoopS ds g tb E δ2
theorem v_for {tb : DP} (hs : PS X st (tFor (iSeq X.K (upE B ta)) (upG B g) (upS B tb))) : PS X st (upS B (dFor ta g tb)) := ps_imp hs fun E σ H ⟨O, δ, Dd, R, h, L⟩ => by
  refine ⟨O, δ, _, R, h, fun w δ1 O1 v H1 q e1 R1 r1 => ?_⟩
  obtain ⟨d, δ2, ⟨ds, hds, Pv, h0, hs, hd⟩, R2, e2, hv⟩ := toD_ok R1 r1 q
  have e12 := e1.trans e2
  -- the object that is walked
  obtain ⟨a, xs, b, rfl, hb, l⟩ : ∃ a xs b, v = .ref a ∧ SqB X.K H1 a xs b ∧ DvAll (Fz O1 δ2.own H1) xs ds ∧ Fz O1 δ2.own H1 a (if b then .lst xs else .tup xs) := by
    rcases hds with rfl | rfl
    · cases hv with
      | lst e l => exact ⟨_, _, true, rfl, SqL.of e.1, l, e⟩
    · cases hv with
      | tup e l => exact ⟨_, _, false, rfl, SqT.of e.1, l, e⟩
  have keep : ∀ {O' S' H'}, Ext O1 δ2.own H1 O' S' H' → SqB X.K H' a xs b := fun {O' S' H'} ex => by
    have z := ex.fz _ _ l.2
    cases b with
    | true => exact SqL.of z.1
    | false => exact SqT.of z.1
  have body : ∃ Pw : Nat → L2.St → Hp → Prop, Pw 0 σ H1 ∧ (∀ i σ H, i ≤ xs.length → Pw i σ H → SqB X.K H a xs b) ∧
      (∀ i x σ H, xs[i]? = some x → Pw i σ H → upG B g x σ H fun σ2 H2 => upS B tb { E with nx := Pw (i + 1), ct := Pw (i + 1), bk := E.nx } σ2 H2) ∧ ∀ σ H, Pw xs.length σ H → E.nx σ H := by
    refine ⟨fun i σ' H' => ∃ (O' : List Addr) (δ' : DS), Ext O1 δ2.own H1 O' δ'.own H' ∧ Rel B O' σ' H' δ' ∧ Pv i δ', ⟨O1, δ2, .refl, R2, h0⟩, fun i σ' H' _ ⟨O', δ', ex, _, _⟩ => keep ex, ?_, ?_⟩
    · rintro i x σ' H' hx ⟨O', δ', ex, R', hp⟩
      have hi : i < xs.length := (List.getElem?_eq_some_iff.mp hx).1
      have hi' : i < ds.length := by rw [← l.1.len]; exact hi
      obtain ⟨dy, edy⟩ : ∃ dy, ds[i]? = some dy := ⟨_, List.getElem?_eq_getElem hi'⟩
      obtain ⟨y, hy, hyd⟩ := l.1.get (i := i) edy
      rw [hx] at hy
      cases hy
      refine ⟨O', δ', .dat dy, _, R', hyd.k ex.fz, hs i dy δ' edy hp, fun δ3 O3 σ3 H3 q3 e3 R3 => ⟨O3, δ3, _, R3, q3, ?_, ?_, ?_, ?_⟩⟩
      · exact fun δ4 O4 σ4 H4 q4 e4 R4 => ⟨O4, δ4, (ex.trans e3).trans e4, R4, q4⟩
      · exact fun w4 δ4 O4 σ4 v4 H4 q4 e4 R4 r4 => L.rt w4 δ4 O4 σ4 v4 H4 q4 ((e12.trans (ex.trans e3)).trans e4) R4 r4
      · exact fun δ4 O4 σ4 H4 q4 e4 R4 => L.nx δ4 O4 σ4 H4 q4 ((e12.trans (ex.trans e3)).trans e4) R4
      · exact fun δ4 O4 σ4 H4 q4 e4 R4 => ⟨O4, δ4, (ex.trans e3).trans e4, R4, q4⟩
    · rintro σ' H' ⟨O', δ', ex, R', hp⟩
      rw [l.1.len] at hp
      exact L.nx δ' O' σ' H' (hd δ' hp) (e12.trans ex) R'
  obtain ⟨Pw, w0, w1, w2, w3⟩ := body
  refine ⟨a, rfl, ?_⟩
  cases b with
  | true => exact .inl ⟨⟨xs, hb⟩, for_list Pw w0 w1 w2 w3⟩
  | false => exact .inr ⟨⟨xs, hb⟩, for_tup Pw w0 w1 w2 w3⟩
def dForR (ta : DA) (g : DG) (tb : DP) : DP := fun E δ => ta δ fun ws δ1 => ∃ j : Int, ws = [.dat (.int j)] ∧ -(2 ^ 62) ≤ j ∧ j < 2 ^ 62 ∧ dLoop j.toNat (fun i => .int (0 + (i : Nat))) g tb E δ1
theorem v_forR {tb : DP} (hs : PS X st (tFor (iRng1 (upA B t)) (upG B g) (upS B tb))) : PS X st (upS B (dForR t g tb)) := ps_imp hs fun E σ H ⟨O, δ, Dd, R, h, L⟩ => by
  refine ⟨O, δ, _, R, h, fun ws δ1 O1 vs H1 ⟨j, ew, j1, j2, Pv, h0, hs, hd⟩ e1 R1 r1 => ?_⟩
  subst ew
  obtain ⟨v, rfl, r⟩ := r1.one
  cases r
  refine ⟨j, rfl, j1, j2, for_range (fun i σ' H' => ∃ (O' : List Addr) (δ' : DS), Ext O1 δ1.own H1 O' δ'.own H' ∧ Rel B O' σ' H' δ' ∧ Pv i δ') ⟨O1, δ1, .refl, R1, h0⟩ ?_ ?_⟩
  · rintro i σ' H' hi ⟨O', δ', ex, R', hp⟩
    refine ⟨O', δ', .dat (.int (0 + (i : Nat))), _, R', Dv.int _, hs i δ' hi hp, fun δ3 O3 σ3 H3 q3 e3 R3 => ⟨O3, δ3, _, R3, q3, ?_, ?_, ?_, ?_⟩⟩
    · exact fun δ4 O4 σ4 H4 q4 e4 R4 => ⟨O4, δ4, (ex.trans e3).trans e4, R4, q4⟩
    · exact fun w4 δ4 O4 σ4 v4 H4 q4 e4 R4 r4 => L.rt w4 δ4 O4 σ4 v4 H4 q4 ((e1.trans (ex.trans e3)).trans e4) R4 r4
    · exact fun δ4 O4 σ4 H4 q4 e4 R4 => L.nx δ4 O4 σ4 H4 q4 ((e1.trans (ex.trans e3)).trans e4) R4
    · exact fun δ4 O4 σ4 H4 q4 e4 R4 => ⟨O4, δ4, (ex.trans e3).trans e4, R4, q4⟩
  · rintro σ' H' ⟨O', δ', ex, R', hp⟩
    exact L.nx δ' O' σ' H' (hd δ' hp) (e1.trans ex) R'
def dWhile (c : DT) (tb : DP) : DP := fun E δ => ∃ Pv : Nat → DS → Prop, (∃ m, Pv m δ) ∧ ∀ m δ, Pv m δ → c δ fun b δ1 => if b = true then ∃ N : DS → Prop, (∀ δ', N δ' → ∃ m', m' < m ∧ Pv m' δ') ∧ tb { E with nx := N, ct := N, bk := E.nx } δ1 else E.nx δ1
theorem v_while {tc : DT} {tb : DP} (hs : PS X st (tWhile (upT B tc) (upS B tb))) : PS X st (upS B (dWhile tc tb)) := ps_imp hs fun E σ H ⟨O, δ, Dd, R, ⟨Pv, ⟨m, h0⟩, hs⟩, L⟩ => by
  refine ⟨fun m σ' H' => ∃ (O' : List Addr) (δ' : DS), Ext O δ.own H O' δ'.own H' ∧ Rel B O' σ' H' δ' ∧ Pv m δ', ⟨m, O, δ, .refl, R, h0⟩, ?_⟩
  rintro m σ' H' ⟨O', δ', ex, R', hp⟩
  refine ⟨O', δ', _, R', hs m δ' hp, fun b δ1 O1 H1 q e1 R1 => ?_⟩
  cases b with
  | false => exact L.nx δ1 O1 σ' H1 q (ex.trans e1) R1
  | true =>
    rw [if_pos rfl] at q ⊢
    obtain ⟨N, hN, q⟩ := q
    refine ⟨fun σ4 H4 => ∃ m', m' < m ∧ ∃ (O' : List Addr) (δ' : DS), Ext O δ.own H O' δ'.own H4 ∧ Rel B O' σ4 H4 δ' ∧ Pv m' δ', fun σ4 H4 h => h, O1, δ1, _, R1, q, ?_, ?_, ?_, ?_⟩
    · rintro δ4 O4 σ4 H4 q4 e4 R4
      obtain ⟨m', hm, hp'⟩ := hN δ4 q4
      exact ⟨m', hm, O4, δ4, (ex.trans e1).trans e4, R4, hp'⟩
    · exact fun w4 δ4 O4 σ4 v4 H4 q4 e4 R4 r4 => L.rt w4 δ4 O4 σ4 v4 H4 q4 ((ex.trans e1).trans e4) R4 r4
    · exact fun δ4 O4 σ4 H4 q4 e4 R4 => L.nx δ4 O4 σ4 H4 q4 ((ex.trans e1).trans e4) R4
    · rintro δ4 O4 σ4 H4 q4 e4 R4
      obtain ⟨m', hm, hp'⟩ := hN δ4 q4
      exact ⟨m', hm, O4, δ4, (ex.trans e1).trans e4, R4, hp'⟩
end
end Va

set_option maxRecDepth 100000
set_option maxHeartbeats 2000000
namespace Va
open PySem PySem.Spec PyProof.Rows L2 Fd

/-! ### what a def promises, in data -/
/-- a raised error: its class, its value -/
abbrev XD := Addr → D → Own → Prop
abbrev SpD := List W → Own → (W → Own → Prop) → XD → Prop
structure LkQ (O : List Addr) (S : Own) (H : Hp) (Qd : W → Own → Prop) (Q : VK) : Prop where
  q : ∀ (w : W) (S' : Own) (O' : List Addr) (v : V) (H' : Hp), Qd w S' → Ext O S H O' S' H' → StoreOk O' H' S' → WR O' S' H' v w → Q v H'
structure LkE (O : List Addr) (S : Own) (H : Hp) (Ed : XD) (E : XK) : Prop where
  e : ∀ (C : Addr) (d : D) (S' : Own) (O' : List Addr) (dd : Addr) (v : V) (H' : Hp), Ed C d S' → Ext O S H O' S' H' → StoreOk O' H' S' → Dv (Fz O' S' H') v d → H' dd = some (.xd [(("value" : Str), v)]) → E (.ref C) (some dd) H'
def lift (sd : SpD) : Sp := fun vs H Q E => ∃ (O : List Addr) (S : Own) (ws : List W) (Qd : W → Own → Prop) (Ed : XD), StoreOk O H S ∧ WRs O S H vs ws ∧ sd ws S Qd Ed ∧ LkQ O S H Qd Q ∧ LkE O S H Ed E
/-- what is owned by the def alone goes; a list that it tells is the caller's -/
def Rt (n : Nat) (Qd : W → Own → Prop) (w : W) (S : Own) : Prop := match w with
  | .dat d => Qd (.dat d) (S.take n)
  | .own k => (k < n ∧ Qd (.own k) (S.take n)) ∨ (n ≤ k ∧ ∃ ob, S[k]? = some (some ob) ∧ Qd (.own n) (S.take n ++ [some ob]))
theorem get_take {α : Type} {l : List α} {n j : Nat} {x : α} (h : (l.take n)[j]? = some x) : l[j]? = some x ∧ j < n := by
  rw [List.getElem?_take] at h
  split at h
  · exact ⟨h, by assumption⟩
  · cases h
theorem lv_take {O : List Addr} {S : Own} {n : Nat} {a : Addr} (h : Lv (O.take n) (S.take n) a) : Lv O S a := by
  obtain ⟨k, ob, h1, h2⟩ := h
  refine ⟨k, ob, ?_, ?_⟩
  · rw [List.getElem?_take] at h1
    split at h1
    · exact h1
    · cases h1
  · rw [List.getElem?_take] at h2
    split at h2
    · exact h2
    · cases h2
theorem take_ok {O : List Addr} {S : Own} {H : Hp} (n : Nat) (h : StoreOk O H S) : StoreOk (O.take n) H (S.take n) ∧ Le (Fz O S H) (Fz (O.take n) (S.take n) H) := by
  have le : Le (Fz O S H) (Fz (O.take n) (S.take n) H) := fun a o ⟨h1, h2⟩ => ⟨h1, fun z => h2 (lv_take z)⟩
  refine ⟨⟨by rw [List.length_take, List.length_take, h.len], h.nod.sublist (List.take_sublist _ _), fun a ha => h.there a (List.mem_of_mem_take ha), fun k ob e => ?_⟩, le⟩
  have e0 := e
  rw [List.getElem?_take] at e
  split at e
  · rename_i hk
    obtain ⟨a, h1, h2⟩ := h.ob k ob e
    exact ⟨a, by rw [List.getElem?_take, if_pos hk]; exact h1, h2.keep le rfl⟩
  · cases e
theorem keep_ok {O : List Addr} {S : Own} {H : Hp} {n k : Nat} {a : Addr} {ob : Ob} (h : StoreOk O H S) (hn : n ≤ k) (ha : O[k]? = some a) (hs : S[k]? = some (some ob)) :
    StoreOk (O.take n ++ [a]) H (S.take n ++ [some ob]) ∧ Le (Fz O S H) (Fz (O.take n ++ [a]) (S.take n ++ [some ob]) H) := by
  have hk : k < O.length := (List.getElem?_eq_some_iff.mp ha).1
  have ln : (O.take n).length = n := by rw [List.length_take]; omega
  have lm : (S.take n).length = n := by rw [List.length_take, ← h.len]; omega
  have na : a ∉ O.take n := fun z => by
    obtain ⟨j, hj⟩ := List.mem_iff_getElem?.mp z
    rw [List.getElem?_take] at hj
    split at hj
    · rename_i hjn
      have := nodup_get h.nod hj ha
      omega
    · cases hj
  have lv : ∀ b, Lv (O.take n ++ [a]) (S.take n ++ [some ob]) b → Lv O S b := fun b ⟨j, u, h1, h2⟩ => by
    by_cases hj : j < n
    · rw [List.getElem?_append_left (by omega)] at h1 h2
      exact lv_take ⟨j, u, h1, h2⟩
    · rw [List.getElem?_append_right (by omega)] at h1
      have z := List.mem_of_getElem? h1
      rw [List.mem_singleton] at z
      rw [z]
      exact ⟨k, ob, ha, hs⟩
  have le : Le (Fz O S H) (Fz (O.take n ++ [a]) (S.take n ++ [some ob]) H) := fun b o ⟨h1, h2⟩ => ⟨h1, fun z => h2 (lv b z)⟩
  refine ⟨⟨by rw [List.length_append, List.length_append, ln, lm]; rfl, ?_, fun b hb => ?_, fun j u e => ?_⟩, le⟩
  · rw [List.nodup_append]
    exact ⟨h.nod.sublist (List.take_sublist _ _), by simp, fun x hx y hy => by
      rw [List.mem_singleton] at hy
      rintro rfl
      exact na (hy ▸ hx)⟩
  · rcases List.mem_append.mp hb with z | z
    · exact h.there b (List.mem_of_mem_take z)
    · rw [List.mem_singleton] at z
      rw [z]
      exact h.there a (List.mem_of_getElem? ha)
  · by_cases hj : j < n
    · rw [List.getElem?_append_left (by omega)] at e
      obtain ⟨e, _⟩ := get_take e
      obtain ⟨b, h3, h4⟩ := h.ob j u e
      exact ⟨b, by rw [List.getElem?_append_left (by omega), List.getElem?_take, if_pos hj]; exact h3, h4.keep le rfl⟩
    · rw [List.getElem?_append_right (by omega)] at e
      have z : j - (S.take n).length = 0 := by
        have y := (List.getElem?_eq_some_iff.mp e).1
        simp at y
        omega
      rw [z] at e
      injection e with e
      injection e with e
      subst e
      obtain ⟨b, h3, h4⟩ := h.ob k ob hs
      rw [ha] at h3
      cases h3
      refine ⟨a, ?_, h4.keep le rfl⟩
      rw [List.getElem?_append_right (by omega), show j - (O.take n).length = 0 by omega]
      rfl
theorem ext_take {O O' : List Addr} {S S' : Own} {H H' : Hp} (h0 : StoreOk O H S) (e : Ext O S H O' S' H') : O'.take S.length = O := by
  obtain ⟨R, rfl⟩ := e.pre
  rw [← h0.len, List.take_left]
/-- behind the body -/
theorem rt_ok {O O' : List Addr} {S S' : Own} {H H' : Hp} {Qd : W → Own → Prop} {Q : VK} {v : V} {w : W} (h0 : StoreOk O H S) (L : LkQ O S H Qd Q) (e : Ext O S H O' S' H') (st : StoreOk O' H' S') (r : WR O' S' H' v w) (q : Rt S.length Qd w S') : Q v H' := by
  have et := ext_take h0 e
  obtain ⟨t1, t2⟩ := take_ok S.length st
  rw [et] at t1 t2
  have ex : Ext O S H O (S'.take S.length) H' := ⟨⟨[], by simp⟩, fun a o h => t2 a o (e.fz a o h)⟩
  cases w with
  | dat d => exact L.q _ _ O v H' q ex t1 (Dv.k r t2)
  | own k =>
    obtain ⟨a, ha, rfl⟩ := r
    rcases q with ⟨hk, q⟩ | ⟨hk, ob, hs, q⟩
    · refine L.q _ _ O _ H' q ex t1 ⟨a, ?_, rfl⟩
      rw [← et, List.getElem?_take, if_pos hk]
      exact ha
    · obtain ⟨k1, k2⟩ := keep_ok st hk ha hs
      rw [et] at k1 k2
      refine L.q _ _ (O ++ [a]) _ H' q ⟨⟨[a], rfl⟩, fun b o h => k2 b o (e.fz b o h)⟩ k1 ⟨a, ?_, rfl⟩
      rw [← h0.len, List.getElem?_append_right (Nat.le_refl _), Nat.sub_self]
      rfl
def slots0 (N : List Str) (ws : List W) : List (Option W) := ws.map some ++ List.replicate (N.length - ws.length) none
theorem WRs.get {O : List Addr} {S : Own} {H : Hp} : ∀ {vs : List V} {ws : List W} {i : Nat} {w : W}, WRs O S H vs ws → ws[i]? = some w → ∃ v, vs[i]? = some v ∧ WR O S H v w
  | _, _, _, _, .nil, e => by simp at e
  | _, _, 0, _, .cons h _, e => by simp at e; subst e; exact ⟨_, rfl, h⟩
  | _, _, i + 1, w, .cons _ t, e => by
    obtain ⟨v, h1, h2⟩ := WRs.get (i := i) (w := w) t (by simpa using e)
    exact ⟨v, by simpa using h1, h2⟩
theorem rel0 {O : List Addr} {S : Own} {H : Hp} {N : List Str} {vs : List V} {ws : List W} (st : StoreOk O H S) (r : WRs O S H vs ws) : Rel ⟨O, S, H⟩ O (L2.start N vs) H ⟨slots0 N ws, S⟩ := by
  refine ⟨st, .refl, fun i w e => ?_, ?_⟩
  · have e : (ws.map some ++ List.replicate (N.length - ws.length) none)[i]? = some (some w) := e
    by_cases hi : i < ws.length
    · rw [List.getElem?_append_left (by rw [List.length_map]; exact hi), List.getElem?_map] at e
      cases c : ws[i]? with
      | none => rw [c] at e; cases e
      | some u =>
        rw [c] at e
        cases e
        obtain ⟨v, h1, h2⟩ := r.get c
        refine ⟨v, ?_, h2⟩
        unfold L2.start
        rw [List.getElem?_append_left (by rw [List.length_map]; exact (List.getElem?_eq_some_iff.mp h1).1), List.getElem?_map, h1]
        rfl
    · rw [List.getElem?_append_right (by rw [List.length_map]; omega)] at e
      have z := List.mem_of_getElem? e
      rw [List.mem_replicate] at z
      cases z.2
  · show (ws.map some ++ List.replicate (N.length - ws.length) none).length = (L2.start N vs).length
    unfold L2.start
    simp [r.len]
section
variable {P : Program} {w : World} {K : PySem.W.Frag} {mg : Str → Option Value} {base : Heap}
/-- in a body: an error that leaves it -/
def LE (B : Base) (Ed : XD) (E : XK) : Prop := ∀ (C : Addr) (d : D) (S' : Own) (O' : List Addr) (dd : Addr) (v : V) (H' : Hp), Ed C d S' → Ext B.O B.S B.H O' S' H' → StoreOk O' H' S' → Dv (Fz O' S' H') v d → H' dd = some (.xd [(("value" : Str), v)]) → E (.ref C) (some dd) H'
theorem le_of {O : List Addr} {S : Own} {H : Hp} {Ed : XD} {E : XK} (h0 : StoreOk O H S) (L : LkE O S H Ed E) : LE ⟨O, S, H⟩ (fun C d S' => Ed C d (S'.take S.length)) E := fun C d S' O' dd v H' q e st hv hd => by
  have et := ext_take h0 e
  obtain ⟨t1, t2⟩ := take_ok S.length st
  rw [et] at t1 t2
  exact L.e C d _ O dd v H' q ⟨⟨[], by simp⟩, fun a o h => t2 a o (e.fz a o h)⟩ t1 (hv.k t2) hd
theorem Dx.prV {x : Str} {st : Stmt} {N ps : List Str} {k : Nat} {sd : SpD} (Df : Fd.Dx K mg x st ps) (Sc : FnScope N ps (defScope st)) (len : ∀ ws S Q E, sd ws S Q E → ws.length = ps.length)
    (body : ∀ (f : Addr) (cdv : Value) (A : Around) (outer : List Env) (s : Shared) (B : Base) (ws : List W) (Qd : W → Own → Prop) (Ed : XD) (E : XK), Room k (A.deeper (envOfC x (defScope st) s.heap.objs.size f cdv)) → LE B (fun C d S' => Ed C d (S'.take B.S.length)) E → sd ws B.S Qd Ed →
      ∃ td : DP, PSs (cxOf (L2.CX P w) P w K mg base N x (defScope st) f cdv A outer s B.H E) (defBody st) (upS B td) ∧ td { nx := fun δ => Rt B.S.length Qd (.dat .non) δ.own, rt := fun u δ => Rt B.S.length Qd u δ.own } ⟨slots0 N ws, B.S⟩) : Fd.Pr P w K mg base (k + 1) x ps (lift sd) := by
  refine Df.pr Sc (fun vs H Q E h => ?_) (fun f cdv A outer s H vs Q E hr h => ?_)
  · obtain ⟨O, S, ws, Qd, Ed, st, r, hs, _⟩ := h
    rw [r.len]
    exact len ws S Qd Ed hs
  · obtain ⟨O, S, ws, Qd, Ed, st, r, hs, L, LEd⟩ := h
    obtain ⟨td, h1, h2⟩ := body f cdv A outer s ⟨O, S, H⟩ ws Qd Ed E hr (le_of st LEd) hs
    refine ⟨_, h1, O, _, _, rel0 st r, h2, ?_, ?_, fun _ _ _ _ z => z.elim, fun _ _ _ _ z => z.elim⟩
    · exact fun δ' O' σ' H' q e R => rt_ok (w := .dat .non) st L R.bs R.st .non q
    · exact fun u δ' O' σ' v H' q e R wr => rt_ok st L R.bs R.st wr q
end
section
variable {X : Cx} {B : Base} {e : Expr} {es : List Expr} {st : Stmt} {pos p : Pos} {x : Str} {ta : DE} {t : DA} {k : Nat} {ps : List Str} {sd : SpD} {E : XK} {Ed : XD}
def dCall (sd : SpD) (Ed : XD) (t : DA) : DE := fun δ Q => t δ fun ws δ1 => sd ws δ1.own (fun w S' => Q w ⟨δ1.slots, S'⟩) Ed
theorem v_call (le : LE B Ed E) (h : PE X e (tCall (lift sd) [] E (upA B t))) : PE X e (upE B (dCall sd Ed t)) := pe_imp h fun σ H Q ⟨O, δ, Qd, R, h, L⟩ =>
  ⟨O, δ, _, R, h, fun ws δ1 O1 vs H1 q e1 R1 r1 => by
    show lift sd (vs ++ []) H1 Q E
    rw [List.append_nil]
    exact ⟨O1, δ1.own, ws, _, Ed, R1.st, r1, q, ⟨fun w S' O' v H' q' e' st' wr => L w _ O' v H' q' (e1.trans e') (R1.to st' e') wr⟩,
      ⟨fun C d S' O' dd v H' q' e' st' hv hd => le C d S' O' dd v H' q' (R1.bs.trans e') st' hv hd⟩⟩⟩
/-- raise X(e) -/
def dRaise (C : Addr) (Ed : XD) (te : DE) : DP := fun _ δ => te δ fun w δ1 => toD w δ1 fun d δ2 => Ed C d δ2.own
theorem v_raise {C : Addr} (le : LE B Ed E) (h : PS X st fun _ σ H => tMade C (upE B ta) σ H fun cls d H' => E cls d H') : PS X st (upS B (dRaise C Ed ta)) := ps_imp h fun D σ H ⟨O, δ, Dd, R, h, L⟩ =>
  ⟨O, δ, _, R, h, fun w δ1 O1 v H1 q e1 R1 r1 d nd => by
    obtain ⟨y, δ2, q2, R2, e2, hy⟩ := toD_ok R1 r1 q
    have e3 : Ext O1 δ2.own H1 O1 δ2.own (upd H1 d (.xd [(("value" : Str), v)])) := ext_new nd
    exact le C y δ2.own O1 d v _ q2 (R2.bs.trans e3) (store_new R2.st nd) (hy.k e3.fz) upd_same⟩
end
end Va

set_option maxRecDepth 100000
set_option maxHeartbeats 2000000
namespace Va
open PySem PySem.Spec PyProof.Rows L2 Fd

/-- an owned thing changes, other things may come -/
theorem own_chg {O : List Addr} {H H' : Hp} {S : Own} {k : Nat} {a : Addr} {ob ob' : Ob} (h : StoreOk O H S) (ha : O[k]? = some a) (hs : S[k]? = some (some ob)) (kp : ∀ b o, b ≠ a → H b = some o → H' b = some o) (q : ObR (Fz O S H) H' a ob') (qa : ∃ o, H' a = some o) :
    StoreOk O H' (S.set k (some ob')) ∧ Ext O S H O (S.set k (some ob')) H' := by
  have hk : k < S.length := (List.getElem?_eq_some_iff.mp hs).1
  have lv : ∀ b, Lv O (S.set k (some ob')) b → Lv O S b := fun b ⟨j, u, h1, h2⟩ => by
    by_cases e : j = k
    · rw [e] at h1
      exact ⟨k, ob, h1, hs⟩
    · rw [List.getElem?_set_ne (Ne.symm e)] at h2
      exact ⟨j, u, h1, h2⟩
  have ex : Ext O S H O (S.set k (some ob')) H' := ⟨⟨[], by simp⟩, fun b u h => by
    refine ⟨kp b u ?_ h.1, fun z => h.2 (lv b z)⟩
    rintro rfl
    exact h.2 ⟨k, ob, ha, hs⟩⟩
  refine ⟨⟨by rw [List.length_set]; exact h.len, h.nod, fun b hb => ?_, fun j u e => ?_⟩, ex⟩
  · obtain ⟨u, z⟩ := h.there b hb
    by_cases e : b = a
    · rw [e]
      exact qa
    · exact ⟨u, kp b u e z⟩
  · by_cases ej : j = k
    · subst ej
      rw [List.getElem?_set_self hk] at e
      injection e with e
      injection e with e
      subst e
      exact ⟨a, ha, q.keep ex.fz rfl⟩
    · rw [List.getElem?_set_ne (Ne.symm ej)] at e
      obtain ⟨b, h1, h2⟩ := h.ob j u e
      refine ⟨b, h1, ?_⟩
      have ne : b ≠ a := by
        rintro rfl
        exact ej (nodup_get h.nod h1 ha)
      exact h2.kept ex.fz fun o => kp b o ne
theorem own_keep {O : List Addr} {H H' : Hp} {S : Own} (h : StoreOk O H S) (kp : Same H H') : StoreOk O H' S ∧ Ext O S H O S H' := by
  have ex : Ext O S H O S H' := ⟨⟨[], by simp⟩, fun b u h => ⟨kp b u h.1, h.2⟩⟩
  refine ⟨⟨h.len, h.nod, fun b hb => ?_, fun j u e => ?_⟩, ex⟩
  · obtain ⟨u, z⟩ := h.there b hb
    exact ⟨u, kp b u z⟩
  · obtain ⟨b, h1, h2⟩ := h.ob j u e
    exact ⟨b, h1, h2.kept ex.fz fun o => kp b o⟩

/-! ### a op b op c, truth -/
section
variable {X : Cx} {B : Base} {a b c e : Expr} {pos : Pos} {ta tb tc : DE}
theorem up_chain {r r' : R2} {rd rd' : R2d} (up : Up2 r rd) (up' : Up2 r' rd') (σ : L2.St) (H : Hp) (Q : VK) : upE B (dChain rd rd' ta tb tc) σ H Q → tChain r r' (upE B ta) (upE B tb) (upE B tc) σ H Q := fun ⟨O, δ, Qd, R, h, L⟩ =>
  ⟨O, δ, _, R, h, fun w δ1 O1 v H1 q e1 R1 r1 => ⟨O1, δ1, _, R1, q, fun u δ2 O2 y H2 q2 e2 R2 r2 => up B O2 σ H2 δ2 v y w u _ _ R2 (r1.ext e2) r2 q2 fun z δ3 O3 zv H3 q3 e3 R3 r3 => by
    obtain ⟨k, ez, q3⟩ := q3
    subst ez
    cases r3
    refine ⟨k, rfl, ?_⟩
    cases k with
    | true =>
      rw [if_pos rfl] at q3 ⊢
      exact ⟨O3, δ3, _, R3, q3, fun t δ4 O4 tv H4 q4 e4 R4 r4 => up' B O4 σ H4 δ4 y tv u t Qd Q R4 (r2.ext (e3.trans e4)) r4 q4 (L.ext (((e1.trans e2).trans e3).trans e4))⟩
    | false =>
      rw [if_neg Bool.false_ne_true] at q3 ⊢
      exact L _ δ3 O3 _ H3 q3 ((e1.trans e2).trans e3) R3 (.bl false)⟩⟩
theorem v_chain {op op' : CmpOp} {r r' : R2} {rd rd' : R2d} (ho : OpR X (compareOp op) r ∧ Up2 r rd) (ho' : OpR X (compareOp op') r' ∧ Up2 r' rd') (ha : PE X a (upE B ta)) (hb : PE X b (upE B tb)) (hc : PE X c (upE B tc))
    (hm : lastMarks [op, op'] [b, c] = false := by with_unfolding_all rfl) : PE X (.Compare a [op, op'] [b, c] pos) (upE B (dChain rd rd' ta tb tc)) := pe_imp (pe_chain ho.1 ho'.1 ha hb hc hm) (up_chain ho.2 ho'.2)
theorem vt_chain {op op' : CmpOp} {r r' : R2} {rd rd' : R2d} (ho : OpR X (compareOp op) r ∧ Up2 r rd) (ho' : OpR X (compareOp op') r' ∧ Up2 r' rd') (ha : PE X a (upE B ta)) (hb : PE X b (upE B tb)) (hc : PE X c (upE B tc))
    (hm : lastMarks [op, op'] [b, c] = false := by with_unfolding_all rfl) : PT X (.Compare a [op, op'] [b, c] pos) (upT B (dTest (dChain rd rd' ta tb tc))) := pt_imp (pt_chain ho.1 ho'.1 ha hb hc hm) fun σ H Q h => by
  obtain ⟨O, δ, Qd, R, h, L⟩ := h
  refine up_chain ho.2 ho'.2 σ H _ ⟨O, δ, _, R, h, fun w δ1 O1 v H1 q e1 R1 r1 => ?_⟩
  obtain ⟨k, ew, q⟩ := q
  subst ew
  cases r1
  exact ⟨k, rfl, L k δ1 O1 H1 q e1 R1⟩
def TruW (S : Own) (w : W) (k : Bool) : Prop := (∃ ds, PkS S w ds ∧ k = !ds.isEmpty) ∨ (w = .dat .non ∧ k = false) ∨ (w = .dat (.bl k)) ∨ (∃ i, w = .dat (.int i) ∧ k = (i != 0)) ∨ ∃ z : Str, w = .dat (.str z) ∧ z.length ≤ sizeLine ∧ k = ((z.length : Int) != 0)
def dTru (td : DE) : DT := fun δ Q => td δ fun w δ1 => ∃ k, TruW δ1.own w k ∧ Q k δ1
theorem DvAll.emp {P : FP} : ∀ {xs : List V} {ds : List D}, DvAll P xs ds → xs.isEmpty = ds.isEmpty
  | _, _, .nil => rfl
  | _, _, .cons _ _ => rfl
theorem vt_truth (ha : PE X a (upE B ta)) (he : ∀ whole, isTrue a X.env whole = (do let v ← whole; standAt a.pos; holding [v] (truthy v))) : PT X a (upT B (dTru ta)) := pt_imp (pt_truth ha he) fun σ H Q ⟨O, δ, Qd, R, h, L⟩ =>
  ⟨O, δ, _, R, h, fun w δ1 O1 v H1 ⟨k, tr, q⟩ e1 R1 r1 => ⟨k, by
    rcases tr with ⟨ds, p | p, rfl⟩ | ⟨rfl, rfl⟩ | rfl | ⟨i, rfl, rfl⟩ | ⟨z, rfl, hz, rfl⟩
    · obtain ⟨a, xs, rfl, e, l⟩ := pk_vw R1.st r1 p
      exact .inl ⟨xs, SqL.of e, by rw [l.emp]⟩
    · obtain ⟨a, xs, rfl, e, l⟩ := pk_vw R1.st r1 p
      exact .inr (.inl ⟨xs, SqT.of e, by rw [l.emp]⟩)
    · cases r1; exact rfl
    · cases r1; exact rfl
    · cases r1; exact rfl
    · cases r1; exact ⟨hz, rfl⟩, L k δ1 O1 H1 q e1 R1⟩⟩
end

/-! ### isinstance -/
def tyN : D → String
  | .non => "NoneType" | .bl _ => "bool" | .int _ => "int" | .str _ => "str" | .lst _ => "list" | .tup _ => "tuple" | .con _ => "" | .ins _ _ _ => "" | .dic _ => "dict" | .dck _ _ => "dict" | .dct _ _ => "dict"
def isiN (n T : String) : Bool := n == T || (n == "bool" && T == "int")
def isiD (d : D) (T : String) : Bool := isiN (tyN d) T
def noCon : D → Bool | .con _ => false | .ins _ _ _ => false | _ => true
theorem Vw.ty {K : PySem.W.Frag} {P : FP} {H : Hp} {v : V} {d : D} (h : Vw P H v d) (n : noCon d = true) : TyX K H v (.type (tyN d)) := by
  cases d with
  | lst ds =>
    obtain ⟨a, xs, rfl, e, _⟩ := h
    exact .base (.lst e)
  | tup ds =>
    obtain ⟨a, xs, rfl, e, _⟩ := h
    exact .base (.tup e)
  | con _ => cases n
  | ins _ _ _ => cases n
  | non => cases h; exact .base .non
  | bl b => cases h; exact .base (.bl b)
  | int i => cases h; exact .base (.int i)
  | str x => cases h; exact .base (.str x)
  | dic a =>
    obtain ⟨rfl, e⟩ := h
    exact .base (.dK e)
  | dck ks ds =>
    obtain ⟨a, xs, rfl, e, _⟩ := h
    exact .base (.dK e)
  | dct ks ds =>
    obtain ⟨a, xs, rfl, e, _⟩ := h
    exact .base (.dT e)
def six : List String := ["int", "bool", "str", "list", "tuple", "dict"]
theorem isi_n {K : PySem.W.Frag} : ∀ n T, n ∈ ["NoneType", "bool", "int", "str", "list", "tuple", "dict"] → T ∈ six → PySem.W.kitOne K (.type n) (.type T) = some (isiN n T) := by
  intro n T hn hT
  unfold six at hT
  simp only [List.mem_cons, List.not_mem_nil, or_false] at hT hn
  rcases hn with rfl | rfl | rfl | rfl | rfl | rfl | rfl <;> rcases hT with rfl | rfl | rfl | rfl | rfl | rfl <;> exact kit_ty (by decide +kernel)
theorem isi_ok {K : PySem.W.Frag} (d : D) (n : noCon d = true) (T : String) (hT : T ∈ six) : PySem.W.kitOne K (.type (tyN d)) (.type T) = some (isiD d T) :=
  isi_n _ _ (by cases d with | con _ => cases n | ins _ _ _ => cases n | _ => simp [tyN]) hT
def rdIsi : RCd := fun ws δ Q => ∃ w d T, ws = [w, .dat (.con (.ty T))] ∧ Pk δ.own w d ∧ noCon d = true ∧ T ∈ six ∧ Q (.dat (.bl (isiD d T))) δ
theorem up_isi {K : PySem.W.Frag} : UpC (rIsi K) rdIsi := by
  rintro B O σ H δ vs ws Qd Q R rs ⟨w, d, T, rfl, p, n, hT, q⟩ L
  obtain ⟨v, c, rfl, r1, r2⟩ := rs.two
  cases r2
  exact ⟨v, _, _, _, _, rfl, .ty T, (pk_vw R.st r1 p).ty n, isi_ok d n T hT, L _ δ O _ H q .refl R (.bl _)⟩
def rdIsiT : RCd := fun ws δ Q => ∃ w d, ws = [w, .dat (.tup [.con (.ty "list"), .con (.ty "tuple")])] ∧ Pk δ.own w d ∧ noCon d = true ∧ Q (.dat (.bl (isiD d "list" || isiD d "tuple"))) δ
theorem up_isiT {K : PySem.W.Frag} : UpC (rIsiT K) rdIsiT := by
  rintro B O σ H δ vs ws Qd Q R rs ⟨w, d, rfl, p, n, q⟩ L
  obtain ⟨v, c, rfl, r1, r2⟩ := rs.two
  cases r2 with
  | tup e l =>
    cases l with
    | cons a l =>
      cases l with
      | cons b l =>
        cases l
        cases a
        cases b
        refine ⟨v, _, _, _, _, _, rfl, e.1, .cons (.ty "list") (.cons (.ty "tuple") .nil), (pk_vw R.st r1 p).ty n, ?_, L _ δ O _ H q .refl R (.bl _)⟩
        have h1 := isi_ok (K := K) d n "list" (by decide)
        have h2 := isi_ok (K := K) d n "tuple" (by decide)
        cases c : isiD d "list" with
        | true =>
          rw [c] at h1
          exact kitAny_cons h1 (fun z => by cases z) (fun _ => rfl)
        | false =>
          rw [c] at h1
          cases c2 : isiD d "tuple" with
          | true =>
            rw [c2] at h2
            exact kitAny_cons h1 (fun _ => kitAny_cons h2 (fun z => by cases z) (fun _ => rfl)) (fun z => by cases z)
          | false =>
            rw [c2] at h2
            exact kitAny_cons h1 (fun _ => kitAny_cons h2 (fun _ => kitAny_nil) (fun z => by cases z)) (fun z => by cases z)

/-! ### the tape -/
def TapeD (T : List D) : Prop := ∃ (xs : List Int) (pos rest mix cnt : Int), T = [.lst (xs.map D.int), .int pos, .int rest, .int mix, .int cnt] ∧ 0 ≤ pos ∧ 0 ≤ mix ∧ mix < 2147483648
def TapeIn (S : Own) (t : Nat) : Prop := ∃ T, S[t]? = some (some (.lst T)) ∧ TapeD T
/-- what is owned by those ahead stands, but for the tape; more may be owned -/
structure Gr (t : Nat) (S S' : Own) : Prop where
  ln : S.length ≤ S'.length
  keep : ∀ k, k < S.length → k ≠ t → S'[k]? = S[k]?
  tape : TapeIn S' t
theorem Gr.refl {t : Nat} {S : Own} (h : TapeIn S t) : Gr t S S := ⟨Nat.le_refl _, fun _ _ _ => rfl, h⟩
theorem Gr.trans {t : Nat} {S S1 S2 : Own} (a : Gr t S S1) (b : Gr t S1 S2) : Gr t S S2 := ⟨Nat.le_trans a.ln b.ln, fun k h n => (b.keep k (Nat.lt_of_lt_of_le h a.ln) n).trans (a.keep k h n), b.tape⟩
theorem TapeIn.lt {S : Own} {t : Nat} (h : TapeIn S t) : t < S.length := by
  obtain ⟨T, e, _⟩ := h
  exact (List.getElem?_eq_some_iff.mp e).1
theorem Gr.push {t : Nat} {S S1 : Own} (a : Gr t S S1) (x : Option Ob) : Gr t S (S1 ++ [x]) := by
  refine ⟨by rw [List.length_append]; exact Nat.le_trans a.ln (Nat.le_add_right _ _), fun k h n => ?_, ?_⟩
  · rw [List.getElem?_append_left (Nat.lt_of_lt_of_le h a.ln)]
    exact a.keep k h n
  · obtain ⟨T, e, h⟩ := a.tape
    exact ⟨T, by rw [List.getElem?_append_left (List.getElem?_eq_some_iff.mp e).1]; exact e, h⟩
theorem Gr.set {t : Nat} {S S1 : Own} (a : Gr t S S1) {k : Nat} (hk : S.length ≤ k) (ht : t < S.length) (x : Option Ob) : Gr t S (S1.set k x) := by
  refine ⟨by rw [List.length_set]; exact a.ln, fun j h n => ?_, ?_⟩
  · rw [List.getElem?_set_ne (by omega)]
    exact a.keep j h n
  · obtain ⟨T, e, h⟩ := a.tape
    exact ⟨T, by rw [List.getElem?_set_ne (by omega)]; exact e, h⟩
theorem Gr.tk {t : Nat} {S S1 : Own} (a : Gr t S S1) (ht : t < S.length) : Gr t S (S1.take S.length) ∧ (S1.take S.length).length = S.length := by
  have e : (S1.take S.length).length = S.length := by
    rw [List.length_take]
    exact Nat.min_eq_left a.ln
  refine ⟨⟨Nat.le_of_eq e.symm, fun k h n => ?_, ?_⟩, e⟩
  · rw [List.getElem?_take, if_pos h]
    exact a.keep k h n
  · obtain ⟨T, e, h⟩ := a.tape
    exact ⟨T, by rw [List.getElem?_take, if_pos ht]; exact e, h⟩
/-- a def that draws from the tape and tells data of this kind -/
def sdT {α : Type} (t : Nat) (S : Own) (f : α → D) (ok : α → Prop) (Q : W → Own → Prop) : Prop := ∀ a S', ok a → Gr t S S' → S'.length = S.length → Q (.dat (f a)) S'
/-- .. or a new list -/
def sdL {α : Type} (t : Nat) (S : Own) (f : α → List D) (ok : α → Prop) (Q : W → Own → Prop) : Prop := ∀ a S', ok a → Gr t S S' → S'.length = S.length + 1 → S'[S.length]? = some (some (.lst (f a))) → Q (.own S.length) S'
theorem rt_dat {α : Type} {t : Nat} {S S1 : Own} {f : α → D} {ok : α → Prop} {Q : W → Own → Prop} (a : α) (h : sdT t S f ok Q) (ht : TapeIn S t) (o : ok a) (g : Gr t S S1) : Rt S.length Q (.dat (f a)) S1 := by
  obtain ⟨g1, e⟩ := g.tk ht.lt
  exact h a _ o g1 e
theorem rt_own {α : Type} {t : Nat} {S S1 : Own} {f : α → List D} {ok : α → Prop} {Q : W → Own → Prop} {k : Nat} (a : α) (h : sdL t S f ok Q) (ht : TapeIn S t) (hk : S.length ≤ k) (o : ok a) (e : S1[k]? = some (some (.lst (f a)))) (g : Gr t S S1) : Rt S.length Q (.own k) S1 := by
  obtain ⟨g1, e1⟩ := g.tk ht.lt
  refine .inr ⟨hk, _, e, h a _ o (g1.push _) (by rw [List.length_append, e1]; rfl) ?_⟩
  rw [List.getElem?_append_right (by omega), e1, Nat.sub_self]
  rfl
/-- a list that is owned by the def alone, behind a draw -/
theorem Gr.own {t k : Nat} {S S1 S2 : Own} {x : Option Ob} (g : Gr t S1 S2) (ht : t < S.length) (hk : S.length ≤ k) (e : S1[k]? = some x) : S2[k]? = some x := (g.keep k (List.getElem?_eq_some_iff.mp e).1 (by omega)).trans e
theorem set_get {S : Own} {k : Nat} {x y : Option Ob} (e : S[k]? = some x) : (S.set k y)[k]? = some y := List.getElem?_set_self (List.getElem?_eq_some_iff.mp e).1
theorem push_get {S : Own} {y : Option Ob} : (S ++ [y])[S.length]? = some y := by simp
def sdPick : SpD := fun ws S Q _ => ∃ (t : Nat) (size : Int), ws = [.own t, .dat (.int size)] ∧ 0 < size ∧ size < 1073741824 ∧ TapeIn S t ∧ sdT t S D.int (fun i => 0 ≤ i ∧ i < size) Q
theorem DvAll.intsInv {P : FP} : ∀ {xs : List V} {ns : List Int}, DvAll P xs (ns.map D.int) → xs = ns.map V.int
  | _, [], h => by cases h; rfl
  | _, n :: ns, h => by
    cases h with
    | cons a b => cases a; rw [DvAll.intsInv b]; rfl
theorem tape_at {O : List Addr} {H : Hp} {S : Own} {t : Nat} (st : StoreOk O H S) (h : TapeIn S t) : ∃ a c, O[t]? = some a ∧ TapeAt H a c ∧ ∃ xs : List Int, Fz O S H c (.lst (xs.map V.int)) := by
  obtain ⟨T, e, xs, pos, rest, mix, cnt, rfl, h1, h2, h3⟩ := h
  obtain ⟨a, ha, ys, hy, l⟩ := st.ob t _ e
  cases l with
  | cons l1 l =>
    cases l with
    | cons l2 l =>
      cases l with
      | cons l3 l =>
        cases l with
        | cons l4 l =>
          cases l with
          | cons l5 l =>
            cases l
            cases l2
            cases l3
            cases l4
            cases l5
            cases l1 with
            | @lst c zs _ e1 l1 =>
              have z := l1.intsInv
              rw [z] at e1
              exact ⟨a, c, ha, ⟨_, hy, xs, pos, rest, mix, cnt, rfl, e1.1, h1, h2, h3⟩, xs, e1⟩
/-- the def of the laws that draws, as data -/
theorem pick_v {P : Program} {w : World} {K : PySem.W.Frag} {mg : Str → Option Value} {base : Heap} {k : Nat} {x : Str} {ps : List Str} (C : Fd.Pr P w K mg base k x ps spPick) : Fd.Pr P w K mg base k x ps (lift sdPick) := by
  obtain ⟨f, fd, g, kp, b, F⟩ := C.ex
  refine ⟨f, fd, g, kp, b, F.imp ?_⟩
  rintro vs H Q E ⟨O, S, ws, Qd, Ed, st, rs, ⟨t, size, rfl, s0, s1, ht, q⟩, L, _⟩
  obtain ⟨v, x, rfl, r1, r2⟩ := rs.two
  cases r2
  obtain ⟨a, rfl⟩ : ∃ a, v = .ref a := by
    obtain ⟨a, _, e⟩ := r1
    exact ⟨a, e⟩
  obtain ⟨a', c, ha, hT, xs0, hc⟩ := tape_at st ht
  obtain ⟨a2, h5, e5⟩ := r1
  cases e5
  rw [ha] at h5
  cases h5
  refine ⟨a, c, size, rfl, s0, s1, hT, fun d H' d0 d1 g => ?_⟩
  obtain ⟨T, e0, _⟩ := ht
  obtain ⟨T', e1, xs, pos, rest, mix, cnt, rfl, e2, h1, h2, h3⟩ := g.tape
  have ne : c ≠ a := fun z => by
    rw [z, e1] at e2
    cases xs <;> cases e2
  have hc2 := g.keep c _ ne hc.1
  rw [e2] at hc2
  have exs : xs.map V.int = xs0.map V.int := by injection hc2 with z; injection z
  obtain ⟨k1, k2⟩ := own_chg (ob' := .lst [.lst (xs.map D.int), .int pos, .int rest, .int mix, .int cnt]) st ha e0 g.keep ⟨_, e1, .cons (.lst (by rw [exs]; exact hc) (.ints xs)) (.cons (.int _) (.cons (.int _) (.cons (.int _) (.cons (.int _) .nil))))⟩ ⟨_, e1⟩
  have hk := (List.getElem?_eq_some_iff.mp e0).1
  refine L.q _ _ O _ H' (q d _ ⟨d0, d1⟩ ⟨by rw [List.length_set]; exact Nat.le_refl _, fun j _ n => List.getElem?_set_ne (Ne.symm n), ⟨_, List.getElem?_set_self hk, xs, pos, rest, mix, cnt, rfl, h1, h2, h3⟩⟩ (List.length_set ..)) k2 k1 (.int d)
end Va

set_option maxRecDepth 100000
set_option maxHeartbeats 2000000
namespace Va
open PySem PySem.Spec PyProof.Rows L2 Fd
/-! ### rules as data -/
def iv (xs : List Int) : D := .tup (xs.map D.int)
def Itm.v : Itm → D
  | .put xs => .tup [.str "put", iv xs]
  | .plus k => .tup [.str "plus", .int k]
  | .own j k => .tup [.str "own", .int j, .int k]
def Wd.v : Wd → D
  | .sign s => .int s
  | .other => .str "other"
  | .fin => .str "end"
def nextV : Option Int → D
  | none => .non
  | some n => .int n
def itsV (is : List Itm) : List D := is.map Itm.v
def Ru.v (r : Ru) : D := .tup [.int r.stand, Wd.v r.word, .tup (itsV r.items), nextV r.next]
def rusV (rs : List Ru) : List D := rs.map Ru.v
def ItOk : Itm → Prop
  | .put xs => Sgn xs ∧ xs.length ≤ 99
  | .plus k => 0 ≤ k ∧ k < 100
  | .own j k => (0 ≤ j ∧ j < 100) ∧ 0 ≤ k ∧ k < 100
def WdOk : Wd → Prop
  | .sign s => 0 ≤ s ∧ s < 100
  | _ => True
structure RuOk (r : Ru) : Prop where
  st : 0 ≤ r.stand ∧ r.stand < 100
  wd : WdOk r.word
  its : ∀ i ∈ r.items, ItOk i
  few : r.items.length ≤ 99
  nx : match r.word, r.next with | .fin, none => True | .fin, some _ => False | _, none => False | _, some n => 0 ≤ n ∧ n < 100
def RusOk (rs : List Ru) : Prop := ∀ r ∈ rs, RuOk r
def sdSign : SpD := fun ws S Q _ => ∃ t, ws = [.own t] ∧ TapeIn S t ∧ sdT t S D.int (fun i => 0 ≤ i ∧ i < 100) Q
def sdSigns : SpD := fun ws S Q _ => ∃ (t : Nat) (many : Int), ws = [.own t, .dat (.int many)] ∧ 0 ≤ many ∧ many ≤ 10000 ∧ TapeIn S t ∧ sdL t S (List.map D.int) (fun ns => (ns.length : Int) = many ∧ Sgn ns) Q
def sdItem : SpD := fun ws S Q _ => ∃ t, ws = [.own t] ∧ TapeIn S t ∧ sdT t S Itm.v ItOk Q
def sdRule : SpD := fun ws S Q _ => ∃ (t : Nat) (n : Int), ws = [.own t, .dat (.int n)] ∧ 0 < n ∧ n ≤ 100 ∧ TapeIn S t ∧ sdT t S Ru.v (fun r => RuOk r ∧ r.items.length ≤ 3) Q
def sdRules : SpD := fun ws S Q _ => ∃ (t : Nat) (n : Int), ws = [.own t, .dat (.int n)] ∧ 0 ≤ n ∧ n ≤ 1000 ∧ TapeIn S t ∧ sdL t S rusV (fun rs => RusOk rs ∧ (∀ r ∈ rs, r.items.length ≤ 3) ∧ (rs.length : Int) ≤ n) Q
theorem itsV_snoc (is : List Itm) (i : Itm) : itsV is ++ [Itm.v i] = itsV (is ++ [i]) := by unfold itsV; rw [List.map_append]; rfl
theorem rusV_snoc (is : List Ru) (i : Ru) : rusV is ++ [Ru.v i] = rusV (is ++ [i]) := by unfold rusV; rw [List.map_append]; rfl
theorem intsV_snoc (is : List Int) (i : Int) : is.map D.int ++ [D.int i] = (is ++ [i]).map D.int := by rw [List.map_append]; rfl
theorem Sgn.snoc {ns : List Int} {k : Int} (h : Sgn ns) (k0 : 0 ≤ k ∧ k < 100) : Sgn (ns ++ [k]) := fun z hz => by
  rcases List.mem_append.mp hz with h' | h'
  · exact h z h'
  · rw [List.mem_singleton.mp h']
    exact k0
end Va
namespace Va
open PySem PySem.Spec PyProof.Rows L2 Fd
/-! ### a def that changes nothing of its caller's -/
def Gp (S S1 : Own) : Prop := S1.take S.length = S
theorem Gp.refl {S : Own} : Gp S S := List.take_length
theorem Gp.le {S S1 : Own} (g : Gp S S1) : S.length ≤ S1.length := by
  have e := congrArg List.length g
  rw [List.length_take] at e
  omega
theorem Gp.push {S S1 : Own} (g : Gp S S1) (x : Option Ob) : Gp S (S1 ++ [x]) := by
  have h := g.le
  unfold Gp
  rw [List.take_append_of_le_length h]
  exact g
theorem Gp.set {S S1 : Own} (g : Gp S S1) {k : Nat} (hk : S.length ≤ k) (x : Option Ob) : Gp S (S1.set k x) := by
  unfold Gp
  rw [List.take_set_of_le hk]
  exact g
theorem Gp.trans {S S1 S2 : Own} (a : Gp S S1) (b : Gp S1 S2) : Gp S S2 := by
  have h := a.le
  unfold Gp at a b ⊢
  rw [← a]
  conv => rhs; rw [← b]
  rw [List.take_take, List.length_take, Nat.min_eq_left (by omega)]
theorem Gp.get {S S1 : Own} (g : Gp S S1) {k : Nat} {x : Option Ob} (e : S[k]? = some x) : S1[k]? = some x := by
  rw [← g, List.getElem?_take] at e
  split at e
  · exact e
  · cases e
theorem rt_pd {S S1 : Own} {Q : W → Own → Prop} {d : D} (g : Gp S S1) (q : Q (.dat d) S) : Rt S.length Q (.dat d) S1 := by
  show Q (.dat d) (S1.take S.length)
  rw [g]
  exact q
theorem rt_po {S S1 : Own} {Q : W → Own → Prop} {k : Nat} {ob : Ob} (g : Gp S S1) (hk : S.length ≤ k) (e : S1[k]? = some (some ob)) (q : Q (.own S.length) (S ++ [some ob])) : Rt S.length Q (.own k) S1 := by
  refine .inr ⟨hk, ob, e, ?_⟩
  rw [g]
  exact q
theorem map_get {α : Type} {f : α → D} {l : List α} {i : Nat} {d : D} (e : (l.map f)[i]? = some d) : ∃ x, l[i]? = some x ∧ d = f x := by
  rw [List.getElem?_map] at e
  cases c : l[i]? with
  | none => rw [c] at e; cases e
  | some x => rw [c] at e; cases e; exact ⟨x, rfl, rfl⟩
/-! ### the signs of a body -/
def itI : Itm → List Int
  | .put xs => 0 :: (xs.length : Int) :: xs
  | .plus k => [1, k]
  | .own j k => [2, j, k]
def wdI : Wd → List Int
  | .sign s => [0, s]
  | .other => [1]
  | .fin => [2]
def nxI : Option Int → List Int
  | none => []
  | some n => [n]
def itsI (is : List Itm) : List Int := (is.map itI).flatten
def ruI (r : Ru) : List Int := r.stand :: (wdI r.word ++ ((r.items.length : Int) :: (itsI r.items ++ nxI r.next)))
def rusI (rs : List Ru) : List Int := (rs.map ruI).flatten
def bodyI (s : Int) (rs : List Ru) : List Int := s :: rusI rs
theorem itI_len {i : Itm} (h : ItOk i) : (itI i).length ≤ 101 := by
  cases i with
  | put xs => have := h.2; simp only [itI, List.length_cons]; omega
  | plus k => simp [itI]
  | own j k => simp [itI]
theorem itsI_len : ∀ {is : List Itm}, (∀ i ∈ is, ItOk i) → (itsI is).length ≤ is.length * 101
  | [], _ => Nat.zero_le _
  | i :: is, h => by
    have h1 := itI_len (h i List.mem_cons_self)
    have h2 := itsI_len (is := is) fun j hj => h j (List.mem_cons_of_mem _ hj)
    show (itI i ++ itsI is).length ≤ (is.length + 1) * 101
    rw [List.length_append]
    omega
theorem itsI_take {is : List Itm} {i : Nat} {x : Itm} (e : is[i]? = some x) : itsI (is.take (i + 1)) = itsI (is.take i) ++ itI x := by
  unfold itsI
  rw [List.take_add_one, e, List.map_append, List.flatten_append]
  simp
theorem rusI_take {is : List Ru} {i : Nat} {x : Ru} (e : is[i]? = some x) : rusI (is.take (i + 1)) = rusI (is.take i) ++ ruI x := by
  unfold rusI
  rw [List.take_add_one, e, List.map_append, List.flatten_append]
  simp
theorem ruI_len {r : Ru} (h : RuOk r) : (ruI r).length ≤ 10010 := by
  have h1 := itsI_len h.its
  have h2 := h.few
  have h3 : (wdI r.word).length ≤ 2 := by cases r.word <;> simp [wdI]
  have h4 : (nxI r.next).length ≤ 1 := by cases r.next <;> simp [nxI]
  simp only [ruI, List.length_cons, List.length_append]
  omega
theorem rusI_len : ∀ {rs : List Ru}, RusOk rs → (rusI rs).length ≤ rs.length * 10010
  | [], _ => Nat.zero_le _
  | r :: rs, h => by
    have h1 := ruI_len (h r List.mem_cons_self)
    have h2 := rusI_len (rs := rs) fun j hj => h j (List.mem_cons_of_mem _ hj)
    show (ruI r ++ rusI rs).length ≤ (rs.length + 1) * 10010
    rw [List.length_append]
    omega
/-- an own list of ints at the end of what the caller has -/
structure Rw (S S1 : Own) (l : List Int) : Prop where
  g : Gp S S1
  e : S1[S.length]? = some (some (.lst (l.map D.int)))
theorem Rw.app {S S1 : Own} {l : List Int} (h : Rw S S1 l) (k : Int) : Rw S (S1.set S.length (some (.lst (l.map D.int ++ [D.int k])))) (l ++ [k]) := ⟨h.g.set (Nat.le_refl _) _, by rw [set_get h.e, intsV_snoc]⟩
theorem Rw.ext {S S1 : Own} {l : List Int} (h : Rw S S1 l) (m : List Int) : Rw S (S1.set S.length (some (.lst (l.map D.int ++ m.map D.int)))) (l ++ m) := ⟨h.g.set (Nat.le_refl _) _, by rw [set_get h.e, List.map_append]⟩
theorem Rw.cast {S S1 : Own} {l l' : List Int} (h : Rw S S1 l) (e : l = l') : Rw S S1 l' := e ▸ h
theorem Rw.push {S S1 : Own} {l : List Int} (h : Rw S S1 l) (x : Option Ob) : Rw S (S1 ++ [x]) l := ⟨h.g.push _, by rw [List.getElem?_append_left (List.getElem?_eq_some_iff.mp h.e).1]; exact h.e⟩
theorem Rw.new {S : Own} (l : List Int) : Rw S (S ++ [some (.lst (l.map D.int))]) l := ⟨Gp.refl.push _, push_get⟩
def sdSpell : SpD := fun ws S Q _ => ∃ (s : Int) (rs : List Ru), ws = [.dat (.int s), .dat (.lst (rusV rs))] ∧ RusOk rs ∧ rs.length ≤ 1000 ∧ Q (.own S.length) (S ++ [some (.lst ((bodyI s rs).map D.int))])
end Va

set_option maxRecDepth 100000
set_option maxHeartbeats 2000000
namespace Va
open PySem PySem.Spec PyProof.Rows L2 Fd
/-! ### slices of ints -/
def cutI (l : List Int) (lo hi : Option Int) : List Int := (l.drop (HT.sIx l.length 0 lo)).take (HT.sIx l.length l.length hi - HT.sIx l.length 0 lo)
theorem cut_ints (l : List Int) (lo hi : Option Int) : cutD (l.map D.int) lo hi = (cutI l lo hi).map D.int := by
  unfold cutD cutI
  rw [List.length_map, List.map_take, List.map_drop]
theorem cutI_sgn {l : List Int} (h : Sgn l) (lo hi : Option Int) : Sgn (cutI l lo hi) := fun z hz => h z (List.mem_of_mem_drop (List.mem_of_mem_take hz))
theorem cutI_len (l : List Int) (lo hi : Option Int) : (cutI l lo hi).length ≤ l.length := by
  unfold cutI
  rw [List.length_take, List.length_drop]
  omega
theorem cutI_nat (l : List Int) (i j : Nat) : cutI l (some (i : Int)) (some (j : Int)) = (l.drop i).take (j - i) := by
  unfold cutI
  rw [HT.sIx_nat, HT.sIx_nat, drop_min]
  by_cases h : i ≤ l.length
  · by_cases h2 : j ≤ l.length
    · rw [Nat.min_eq_left h2, Nat.min_eq_left h]
    · rw [List.take_of_length_le (show (l.drop i).length ≤ min j l.length - min i l.length by rw [List.length_drop]; omega), List.take_of_length_le (show (l.drop i).length ≤ j - i by rw [List.length_drop]; omega)]
  · rw [List.drop_eq_nil_of_le (show l.length ≤ i by omega), List.take_nil, List.take_nil]
theorem cutI_to (l : List Int) (j : Nat) : cutI l none (some (j : Int)) = l.take j := by
  unfold cutI
  rw [HT.sIx_nat, HT.sIx_none, Nat.sub_zero]
  show l.take _ = _
  by_cases h : j ≤ l.length
  · rw [Nat.min_eq_left h]
  · rw [Nat.min_eq_right (show l.length ≤ j by omega), List.take_length, List.take_of_length_le (show l.length ≤ j by omega)]
theorem cutI_from (l : List Int) (i : Nat) : cutI l (some (i : Int)) none = l.drop i := by
  unfold cutI
  rw [HT.sIx_nat, HT.sIx_none, drop_min]
  apply List.take_of_length_le
  rw [List.length_drop]
  omega
theorem Sgn.app {l m : List Int} (h : Sgn l) (h2 : Sgn m) : Sgn (l ++ m) := fun z hz => by
  rcases List.mem_append.mp hz with h' | h'
  · exact h z h'
  · exact h2 z h'
theorem get_push {S : Own} {k : Nat} {x y : Option Ob} (e : S[k]? = some x) : (S ++ [y])[k]? = some x := by
  rw [List.getElem?_append_left (List.getElem?_eq_some_iff.mp e).1]
  exact e
/-! ### one owned thing changes -/
structure Ch (p : Nat) (S S' : Own) : Prop where
  ln : S.length ≤ S'.length
  keep : ∀ k, k < S.length → k ≠ p → S'[k]? = S[k]?
theorem Ch.own {p k : Nat} {S S' : Own} {x : Option Ob} (c : Ch p S S') (n : k ≠ p) (e : S[k]? = some x) : S'[k]? = some x := (c.keep k (List.getElem?_eq_some_iff.mp e).1 n).trans e
theorem Ch.gp {p : Nat} {S0 S S' : Own} (c : Ch p S S') (g : Gp S0 S) (h : S0.length ≤ p) : Gp S0 S' := by
  unfold Gp
  apply List.ext_getElem?
  intro k
  rw [List.getElem?_take]
  have hl := g.le
  split
  · rename_i hk
    rw [c.keep k (by omega) (by omega)]
    have e : (S.take S0.length)[k]? = S0[k]? := by rw [g]
    rw [List.getElem?_take, if_pos hk] at e
    exact e
  · rw [List.getElem?_eq_none (by omega)]
def pl (a : Nat) (f : Int) : Option Ob := some (.lst [.int (a : Int), .int f])
/-- a place goes on -/
def TkR (row : List Int) (at_ : Nat) (fl : Int) (many : Nat) (xs : List Int) (at' : Nat) (fl' : Int) : Prop :=
  (at_ + many ≤ row.length ∧ xs = (row.drop at_).take many ∧ at' = at_ + many ∧ fl' = fl) ∨ (row.length < at_ + many ∧ xs = List.replicate many 0 ∧ at' = at_ ∧ fl' = 1)
def sdTake : SpD := fun ws S Q _ => ∃ (row : List Int) (p a many : Nat) (fl : Int), ws = [.dat (.lst (row.map D.int)), .own p, .dat (.int (many : Int))] ∧ S[p]? = some (pl a fl) ∧ many ≤ 1000 ∧ row.length ≤ 10000000 ∧
  ∀ (xs : List Int) (a' : Nat) (fl' : Int) (S' : Own), TkR row a fl many xs a' fl' → Ch p S S' → S'.length = S.length + 1 → S'[p]? = some (pl a' fl') → S'[S.length]? = some (some (.lst (xs.map D.int))) → Q (.own S.length) S'
theorem rt_new {n : Nat} {Q : W → Own → Prop} {S1 : Own} {ob : Ob} (h : S1.length = n) (q : Q (.own n) (S1 ++ [some ob])) : Rt n Q (.own S1.length) (S1 ++ [some ob]) := by
  refine .inr ⟨Nat.le_of_eq h.symm, ob, push_get, ?_⟩
  rw [show (S1 ++ [some ob]).take n = S1 by rw [← h, List.take_left]]
  exact q
theorem rt_new2 {n : Nat} {Q : W → Own → Prop} {S1 : Own} {ob : Ob} {x : Option Ob} (h : S1.length = n) (q : Q (.own n) (S1 ++ [some ob])) : Rt n Q (.own (S1 ++ [x]).length) (S1 ++ [x] ++ [some ob]) := by
  refine .inr ⟨by rw [List.length_append]; omega, ob, push_get, ?_⟩
  rw [show (S1 ++ [x] ++ [some ob]).take n = S1 by rw [List.append_assoc, ← h, List.take_left]]
  exact q
/-- the next sign -/
def T1 (row : List Int) (a : Nat) (fl : Int) (x : Int) (a' : Nat) (fl' : Int) : Prop :=
  (∃ r, row.drop a = x :: r ∧ a' = a + 1 ∧ fl' = fl ∧ row.drop a' = r ∧ a' ≤ row.length) ∨ (row.drop a = [] ∧ x = 0 ∧ a' = a ∧ fl' = 1)
theorem T1_of {row xs : List Int} {a a' : Nat} {fl fl' : Int} (h : TkR row a fl 1 xs a' fl') : ∃ x, xs = [x] ∧ T1 row a fl x a' fl' := by
  rcases h with ⟨h1, rfl, rfl, rfl⟩ | ⟨h1, rfl, rfl, rfl⟩
  · have e : row.drop a = row[a] :: row.drop (a + 1) := List.drop_eq_getElem_cons (by omega)
    exact ⟨row[a], by rw [e]; rfl, .inl ⟨_, e, rfl, rfl, rfl, h1⟩⟩
  · exact ⟨0, rfl, .inr ⟨List.drop_eq_nil_of_le (by omega), rfl, rfl, rfl⟩⟩
theorem take1 {Ed : XD} {i p P a : Nat} {fl : Int} {δ : DS} {row : List Int} {Q : W → DS → Prop} (h0 : δ.slots[i]? = some (some (.dat (.lst (row.map D.int))))) (h1 : δ.slots[p]? = some (some (.own P))) (hp : δ.own[P]? = some (pl a fl)) (hl : row.length ≤ 10000000)
    (q : ∀ (x : Int) (a' : Nat) (fl' : Int) (S' : Own), T1 row a fl x a' fl' → Ch P δ.own S' → S'[P]? = some (pl a' fl') → Q (.dat (.int x)) ⟨δ.slots, S'⟩) :
    d2 rdIx (dCall sdTake Ed (dCons (dFrz (dVar i)) (dCons (dVar p) (dCons (dC (.int 1)) dNil)))) (dC (.int 0)) δ Q := by
  refine ⟨_, h0, _, h1, row, P, a, 1, fl, rfl, hp, by decide, hl, fun xs a' fl' S' t c l e1 e2 => ?_⟩
  obtain ⟨x, rfl, t1⟩ := T1_of t
  exact ⟨_, rfl, .inl ⟨_, _, .inl ⟨_, e2, rfl⟩, atI_nat (j := 0) rfl, q x a' fl' S' t1 c e1⟩⟩
theorem T1.sgn {row : List Int} {a a' : Nat} {fl fl' x : Int} (h : T1 row a fl x a' fl') (hs : Sgn row) : 0 ≤ x ∧ x < 100 := by
  rcases h with ⟨r, e, _⟩ | ⟨_, rfl, _⟩
  · exact hs x (List.mem_of_mem_drop (i := a) (by rw [e]; exact List.mem_cons_self))
  · decide
def sdReadRule : SpD := fun ws S Q _ => ∃ (row : List Int) (b : Nat), ws = [.dat (.lst (row.map D.int)), .dat (.int (b : Int))] ∧ Sgn row ∧ row.length ≤ 10000000 ∧ b ≤ row.length ∧ (ruleOf (row.drop b) = none → Q (.dat .non) S) ∧
  ∀ (u : Ru) (a : Nat), ruleOf (row.drop b) = some (u, row.drop a) → a ≤ row.length → Q (.own S.length) (S ++ [some (.lst [Ru.v u, .int (a : Int)])])
def sdReading : SpD := fun ws S Q _ => ∃ (row : List Int), ws = [.dat (.lst (row.map D.int))] ∧ Sgn row ∧ row.length ≤ 10000000 ∧ (row = [] → Q (.own S.length) (S ++ [some (.lst [.int 0, .lst [], .int 0])])) ∧
  ∀ (s : Int) (r : List Int) (a : Nat), row = s :: r → (rulesOf row.length r).2 = row.drop a → a ≤ row.length → Q (.own S.length) (S ++ [some (.lst [.int s, .lst (rusV (rulesOf row.length r).1), .int (a : Int)])])
def sdSpoiled : SpD := fun ws S Q _ => ∃ (t : Nat) (row : List Int), ws = [.own t, .dat (.lst (row.map D.int))] ∧ Sgn row ∧ row.length ≤ 1000000 ∧ TapeIn S t ∧ sdL t S (List.map D.int) (fun ns => Sgn ns ∧ ns.length ≤ row.length + 1) Q
end Va
namespace Va
open PySem PySem.Spec PyProof.Rows L2 Fd
/-- where a reading stands -/
structure Pl (S0 S1 : Own) (row : List Int) (a : Nat) (f : Int) : Prop where
  g : Gp S0 S1
  e : S1[S0.length]? = some (pl a f)
  le : a ≤ row.length
theorem T1.le {row : List Int} {a a' : Nat} {fl fl' x : Int} (h : T1 row a fl x a' fl') (l : a ≤ row.length) : a' ≤ row.length := by
  rcases h with ⟨_, _, _, _, _, z⟩ | ⟨_, _, rfl, _⟩
  · exact z
  · exact l
theorem Pl.next {S0 S1 S2 : Own} {row : List Int} {a a' : Nat} {f f' : Int} (p : Pl S0 S1 row a f) (c : Ch S0.length S1 S2) (e : S2[S0.length]? = some (pl a' f')) (l : a' ≤ row.length) : Pl S0 S2 row a' f' := ⟨c.gp p.g (Nat.le_refl _), e, l⟩
/-- it failed, or so it goes on -/
def Bg {α : Type} (f : Int) (G : Option α) (good : Prop) : Prop := (f = 1 ∧ G = none) ∨ (f = 0 ∧ good)
theorem Bg.step {α : Type} {row : List Int} {a a' : Nat} {f f' x : Int} {G : Option α} {good good' : Prop} (b : Bg f G good) (t : T1 row a f x a' f') (h0 : f = 0 → good → row.drop a = [] → G = none) (h1 : good → row.drop a = x :: row.drop a' → good') : Bg f' G good' := by
  rcases t with ⟨r, e, rfl, rfl, er, _⟩ | ⟨e, _, _, rfl⟩
  · rcases b with b | ⟨z, b⟩
    · exact .inl b
    · exact .inr ⟨z, h1 b (by rw [e, er])⟩
  · rcases b with ⟨_, b⟩ | ⟨z, b⟩
    · exact .inl ⟨rfl, b⟩
    · exact .inl ⟨rfl, h0 z b e⟩
theorem Bg.bad {α : Type} {f : Int} {G : Option α} {good good' : Prop} (b : Bg f G good) (h : good → G = none) : Bg 1 G good' := by
  rcases b with ⟨_, b⟩ | ⟨_, b⟩
  · exact .inl ⟨rfl, b⟩
  · exact .inl ⟨rfl, h b⟩
theorem Bg.mono {α : Type} {f : Int} {G : Option α} {good good' : Prop} (b : Bg f G good) (h : good → good') : Bg f G good' := by
  rcases b with b | ⟨z, b⟩
  · exact .inl b
  · exact .inr ⟨z, h b⟩
theorem ruleEnd_nil {st : Int} {w : Wd} {is : List Itm} (h : w ≠ .fin) : ruleEnd st w is [] = none := by
  cases w with
  | fin => exact absurd rfl h
  | _ => rfl
theorem ruleEnd_cons {st f : Int} {w : Wd} {is : List Itm} {r : List Int} (h : w ≠ .fin) : ruleEnd st w is (f :: r) = some (⟨st, w, is, some f⟩, r) := by
  cases w with
  | fin => exact absurd rfl h
  | _ => rfl
end Va

set_option maxRecDepth 100000
set_option maxHeartbeats 2000000
namespace Va
open PySem PySem.Spec PyProof.Rows L2 Fd

/-! ### objects -/
def put2 {α : Type} (f : Str) (a : α) : List Str → List α → List Str × List α
  | n :: ns, x :: xs => if n = f then (n :: ns, a :: xs) else (n :: (put2 f a ns xs).1, x :: (put2 f a ns xs).2)
  | _, _ => ([f], [a])
theorem put2_zip (f : Str) (v : V) : ∀ {ns : List Str} {xs : List V}, ns.length = xs.length → putF f v (ns.zip xs) = (put2 f v ns xs).1.zip (put2 f v ns xs).2
  | [], [], _ => rfl
  | n :: ns, x :: xs, h => by
    show (if n = f then (n, v) :: ns.zip xs else (n, x) :: putF f v (ns.zip xs)) = _
    unfold put2
    by_cases c : n = f
    · rw [if_pos c, if_pos c]
      rfl
    · rw [if_neg c, if_neg c, put2_zip f v (by simpa using h)]
      rfl
theorem put2_len {α : Type} (f : Str) (a : α) : ∀ {ns : List Str} {xs : List α}, ns.length = xs.length → (put2 f a ns xs).1.length = (put2 f a ns xs).2.length
  | [], [], _ => rfl
  | n :: ns, x :: xs, h => by
    unfold put2
    by_cases c : n = f
    · rw [if_pos c]
      exact h
    · rw [if_neg c]
      simp [put2_len f a (by simpa using h : ns.length = xs.length)]
theorem put2_names {α β : Type} (f : Str) (a : α) (b : β) : ∀ {ns : List Str} {xs : List α} {ys : List β}, ns.length = xs.length → ns.length = ys.length → (put2 f a ns xs).1 = (put2 f b ns ys).1
  | [], [], [], _, _ => rfl
  | n :: ns, x :: xs, y :: ys, h, h2 => by
    unfold put2
    by_cases c : n = f
    · rw [if_pos c, if_pos c]
    · rw [if_neg c, if_neg c, put2_names f a b (by simpa using h) (by simpa using h2)]
theorem put2_dv {P : FP} {v : V} {d : D} (hd : Dv P v d) (f : Str) : ∀ {ns : List Str} {xs : List V} {ds : List D}, ns.length = xs.length → DvAll P xs ds → DvAll P (put2 f v ns xs).2 (put2 f d ns ds).2
  | [], [], [], _, .nil => .cons hd .nil
  | n :: ns, x :: xs, d0 :: ds, h, .cons a b => by
    unfold put2
    by_cases c : n = f
    · rw [if_pos c, if_pos c]
      exact .cons hd b
    · rw [if_neg c, if_neg c]
      exact .cons a (put2_dv hd f (by simpa using h) b)
def fldD (f : Str) (ns : List Str) (ds : List D) : Option D := (ns.zip ds).lookup f
theorem fld_ok {P : FP} {f : Str} {d : D} : ∀ {ns : List Str} {xs : List V} {ds : List D}, DvAll P xs ds → fldD f ns ds = some d → ∃ v, (ns.zip xs).lookup f = some v ∧ Dv P v d
  | [], _, _, _, e => by cases e
  | n :: ns, _, _, .nil, e => by cases e
  | n :: ns, x :: xs, d0 :: ds, .cons a b, e => by
    unfold fldD at e
    rw [List.zip_cons_cons, List.lookup_cons] at e ⊢
    cases c : f == n with
    | true =>
      rw [c] at e
      cases e
      exact ⟨x, rfl, a⟩
    | false =>
      rw [c] at e
      exact fld_ok b e
def PkI (S : Own) (w : W) (C : Addr) (ns : List Str) (ds : List D) : Prop := Pk S w (.ins C ns ds)
section
variable {X : Cx} {B : Base} {e o : Expr} {es : List Expr} {st : Stmt} {pos p : Pos} {C : Addr} {f : Str} {ta tv : DE} {t : DA}
def dFld (C : Addr) (f : Str) (ta : DE) : DE := fun δ Q => ta δ fun w δ1 => ∃ ns ds d, Pk δ1.own w (.ins C ns ds) ∧ fldD f ns ds = some d ∧ Q (.dat d) δ1
/-- o.f of an object of the class at C -/
theorem v_fld (hc : Cls X.K C) (hn : NoAttr X.K C f) (h : PE X o (upE B ta)) (hb : attributeBase o f X.env (eval o X.env) = eval o X.env := by rfl) : PE X (.Attribute o f pos) (upE B (dFld C f ta)) := pe_imp (pe_fld h hb) fun σ H Q ⟨O, δ, Qd, R, h, L⟩ =>
  ⟨O, δ, _, R, h, fun w δ1 O1 v H1 ⟨ns, ds, d, pk, ef, q⟩ e1 R1 r1 => by
    obtain ⟨a, dx, xs, rfl, eh, _, hl, l⟩ := pk_vw R1.st r1 pk
    obtain ⟨x, el, hx⟩ := fld_ok l ef
    exact ⟨a, C, dx, _, x, rfl, eh, hc, hn, el, L _ δ1 O1 x H1 q e1 R1 hx⟩⟩
theorem Rel.fld {O : List Addr} {σ : L2.St} {H : Hp} {δ : DS} {k : Nat} {a dx : Addr} {ns : List Str} {ds : List D} {xs : List V} {v : V} {d : D} (R : Rel B O σ H δ) (ha : O[k]? = some a) (e : δ.own[k]? = some (some (.ins C ns ds)))
    (eh : H a = some (.ins C dx (ns.zip xs))) (hd : Fz O δ.own H dx (.own a)) (hl : ns.length = xs.length) (l : DvAll (Fz O δ.own H) xs ds) (hv : Dv (Fz O δ.own H) v d) :
    Ext O δ.own H O (δ.own.set k (some (.ins C (put2 f d ns ds).1 (put2 f d ns ds).2))) (upd H a (.ins C dx (putF f v (ns.zip xs)))) ∧ Rel B O σ (upd H a (.ins C dx (putF f v (ns.zip xs)))) ⟨δ.slots, δ.own.set k (some (.ins C (put2 f d ns ds).1 (put2 f d ns ds).2))⟩ := by
  have hl2 : ns.length = ds.length := hl.trans l.len
  obtain ⟨h1, h2⟩ := own_set (ob' := .ins C (put2 f d ns ds).1 (put2 f d ns ds).2) (o := .ins C dx (putF f v (ns.zip xs))) R.st ha e ⟨dx, (put2 f v ns xs).2, by rw [upd_same, put2_zip f v hl, put2_names f v d hl hl2], hd, by rw [put2_names f d v hl2 hl, put2_len f v hl], put2_dv hv f hl l⟩
  exact ⟨h2, R.to h1 h2⟩
theorem Rel.ins {O : List Addr} {σ : L2.St} {H : Hp} {δ : DS} {k : Nat} {v : V} {ns : List Str} {ds : List D} (R : Rel B O σ H δ) (r : WR O δ.own H v (.own k)) (e : δ.own[k]? = some (some (.ins C ns ds))) :
    ∃ a dx xs, v = .ref a ∧ O[k]? = some a ∧ H a = some (.ins C dx (ns.zip xs)) ∧ Fz O δ.own H dx (.own a) ∧ ns.length = xs.length ∧ DvAll (Fz O δ.own H) xs ds := by
  obtain ⟨a, h1, rfl⟩ := r
  obtain ⟨b, h2, dx, xs, h3, h4, h5, h6⟩ := R.st.ob k _ e
  rw [h1] at h2
  cases h2
  exact ⟨a, dx, xs, rfl, h1, h3, h4, h5, h6⟩
/-- o.f as a target -/
def dgFld (C : Addr) (f : Str) (ta : DE) : DG := fun w δ Q => ta δ fun o δ1 => ∃ k, o = .own k ∧ toD w δ1 fun d δ2 => ∃ ns ds, δ2.own[k]? = some (some (.ins C ns ds)) ∧ ns.length < 1000 ∧ Q ⟨δ2.slots, δ2.own.set k (some (.ins C (put2 f d ns ds).1 (put2 f d ns ds).2))⟩
def gFld (K : PySem.W.Frag) (f : Str) (to : TE) : TG := fun y σ H Q => to σ H fun x H2 => ∃ a C dx fs, x = .ref a ∧ H2 a = some (.ins C dx fs) ∧ Cls K C ∧ NoAttr K C f ∧ fs.length < 1000 ∧ Q σ (upd H2 a (.ins C dx (putF f y fs)))
theorem pg_fld {to : TE} (ho : PE X o to) : PG X (.Attribute o f pos) (gFld X.K f to) := by
  refine ⟨fun pins s σ H v u Q I r h => ?_⟩
  refine PySem.W.kas_attr (thn (ho.run pins s σ H _ I h) fun ov s2 ⟨x, H2, I2, rx, a, C, dx, fs, ex, ea, c, n, l, q2⟩ => ?_)
  subst ex
  obtain rfl : ov = Value.ref a := rx
  exact setattr_ok I2 ea c n l r fun s3 I3 => ⟨σ, _, I3, q2⟩
theorem up_gfld (hc : Cls X.K C) (hn : NoAttr X.K C f) (v : V) (σ : L2.St) (H : Hp) (Q : L2.St → Hp → Prop) : upG B (dgFld C f ta) v σ H Q → gFld X.K f (upE B ta) v σ H Q := fun ⟨O, δ, w, Qd, R, r, q, L⟩ => by
  refine ⟨O, δ, _, R, q, fun ow δ1 O1 o H1 ⟨k, ew, q1⟩ e1 R1 r1 => ?_⟩
  subst ew
  obtain ⟨d, δ2, ⟨ns, ds, es, hfew, q2⟩, R2, e2, hd⟩ := toD_ok R1 (r.ext e1) q1
  obtain ⟨a, dx, xs, rfl, ha, eh, hx, hl, l⟩ := R2.ins (r1.ext e2) es
  obtain ⟨h1, h2⟩ := R2.fld (f := f) ha es eh hx hl l hd
  exact ⟨a, C, dx, _, rfl, eh, hc, hn, by rw [List.length_zip, ← hl, Nat.min_self]; exact hfew, L _ _ _ _ q2 ((e1.trans e2).trans h1) h2⟩
theorem vg_fld (hc : Cls X.K C) (hn : NoAttr X.K C f) (ho : PE X o (upE B ta)) : PG X (.Attribute o f pos) (upG B (dgFld C f ta)) := pg_imp (pg_fld ho) (up_gfld hc hn)
/-- o.f = e -/
theorem v_sfld (hc : Cls X.K C) (hn : NoAttr X.K C f) (h : PS X st (sFld X.K (upE B ta) (upE B tv) f)) : PS X st (upS B (dAsg tv (dgFld C f ta))) := ps_imp h fun E σ H ⟨O, δ, Dd, R, h, L⟩ =>
  ⟨O, δ, _, R, h, fun w δ1 O1 v H1 q e R1 r1 => by
    have z : upG B (dgFld C f ta) v σ H1 E.nx := ⟨O1, δ1, w, _, R1, r1, q, fun δ2 O2 σ2 H2 q2 e2 R2 => L.nx δ2 O2 σ2 H2 q2 (e.trans e2) R2⟩
    exact up_gfld hc hn v σ H1 E.nx z⟩

/-! ### a new object -/
theorem Rel.made {O : List Addr} {σ : L2.St} {H : Hp} {δ : DS} {x dx : Addr} (R : Rel B O σ H δ) (nx : H x = none) (nd : H dx = none) (ne : dx ≠ x) :
    Ext O δ.own H (O ++ [x]) (δ.own ++ [some (.ins C [] [])]) (upd (upd H dx (.own x)) x (.ins C dx [])) ∧ StoreOk (O ++ [x]) (upd (upd H dx (.own x)) x (.ins C dx [])) (δ.own ++ [some (.ins C [] [])]) := by
  have e1 : Ext O δ.own H O δ.own (upd H dx (.own x)) := ext_new nd
  have s1 := store_new (o := .own x) R.st nd
  have nx1 : upd H dx (.own x) x = none := by rw [upd_ne (Ne.symm ne)]; exact nx
  obtain ⟨h1, h2⟩ := own_new (ob := .ins C [] []) (o := .ins C dx []) s1 nx1 ⟨dx, [], upd_same, ⟨upd_same, fun z => not_lv_new R.st nd z.mem⟩, rfl, .nil⟩
  exact ⟨e1.trans h2, h1⟩
def dMake (C : Addr) (sd : SpD) (Ed : XD) (t : DA) : DE := fun δ Q => t δ fun ws δ1 => sd (.own δ1.own.length :: ws) (δ1.own ++ [some (.ins C [] [])]) (fun w S' => w = .dat .non ∧ Q (.own δ1.own.length) ⟨δ1.slots, S'⟩) Ed
theorem v_make {sd : SpD} {Ed : XD} {E : XK} (le : LE B Ed E) (h : PE X e (tMake C (lift sd) [] E (upA B t))) : PE X e (upE B (dMake C sd Ed t)) := pe_imp h fun σ H Q ⟨O, δ, Qd, R, h, L⟩ =>
  ⟨O, δ, _, R, h, fun ws δ1 O1 vs H1 q e1 R1 r1 x dx nx nd ne => by
    obtain ⟨e2, s2⟩ := R1.made (C := C) nx nd ne
    show lift sd (.ref x :: (vs ++ [])) _ _ E
    rw [List.append_nil]
    have hx : (O1 ++ [x])[δ1.own.length]? = some x := by
      rw [← R1.st.len, List.getElem?_append_right (Nat.le_refl _), Nat.sub_self]
      rfl
    refine ⟨O1 ++ [x], _, _, _, Ed, s2, WRs.cons (w := .own δ1.own.length) ⟨x, hx, rfl⟩ (r1.ext e2), q, ⟨fun w S' O' v H' q' e' st' wr => ?_⟩, ⟨fun C d S' O' dd v H' q' e' st' hv hd => le C d S' O' dd v H' q' ((R1.bs.trans e2).trans e') st' hv hd⟩⟩
    obtain ⟨ew, q'⟩ := q'
    subst ew
    cases wr
    exact ⟨rfl, L _ _ O' _ H' q' ((e1.trans e2).trans e') (R1.to st' (e2.trans e')) ⟨x, e'.get hx, rfl⟩⟩⟩
/-- a class that stands behind the top, its __init__ with its promise -/
structure PrC (P : Program) (w : World) (K : PySem.W.Frag) (mg : Str → Option Value) (base : Heap) (k : Nat) (x : Str) (C : Addr) (ps : List Str) (sd : SpD) : Prop where
  ex : ∃ (f : Addr) (fd : FuncData), mg x = some (.ref C) ∧ Mk K C f ∧ Binds K fd ps [] ∧ FnOk P w K mg base (L2.CX P w) k f fd ps (lift sd)
theorem pe_makeC {k : Nat} {x : Str} {ps : List Str} {sd : SpD} {E : XK} {ta : TA} (c : PrC X.prog X.w X.K X.mg X.base k x C ps sd) (hr : Room (k + 1) X.A) (hg : Gl X x) (hx : Passes (L2.CX X.prog X.w) X E) (ha : PA X (e :: es) ta) (hdb : (x == ("__debug__" : Str)) = false := by decide)
    (he : starEach (e :: es) X.env = (false, eval e X.env) :: starEach es X.env := by rfl) (hpl : (backTo pos (starEach es X.env)).any (·.1) = false := by rfl) : PE X (.Call (.Name x p) (e :: es) [] pos) (tMake C (lift sd) [] E ta) := by
  obtain ⟨f, fd, g, m, b, F⟩ := c.ex
  exact pe_make m F hr hg g b .nil hx ha hdb he hpl
end
section
variable {P : Program} {w : World} {K : PySem.W.Frag} {mg : Str → Option Value} {base : Heap}
/-- a method, an __init__: as Dx.prV -/
theorem fn_v {x qual : Str} {st : Stmt} {f : Addr} {fd : FuncData} {N ps : List Str} {k : Nat} {sd : SpD} (F : Fun K x qual st f fd) (Sc : FnScope N ps (defScope st)) (len : ∀ ws S Q E, sd ws S Q E → ws.length = ps.length)
    (body : ∀ (cdv : Value) (A : Around) (outer : List Env) (s : Shared) (B : Base) (ws : List W) (Qd : W → Own → Prop) (Ed : XD) (E : XK), Room k (A.deeper (envOfC qual (defScope st) s.heap.objs.size f cdv)) → LE B (fun C d S' => Ed C d (S'.take B.S.length)) E → sd ws B.S Qd Ed →
      ∃ td : DP, PSs (cxOf (L2.CX P w) P w K mg base N qual (defScope st) f cdv A outer s B.H E) (defBody st) (upS B td) ∧ td { nx := fun δ => Rt B.S.length Qd (.dat .non) δ.own, rt := fun u δ => Rt B.S.length Qd u δ.own } ⟨slots0 N ws, B.S⟩) : FnOk P w K mg base (L2.CX P w) (k + 1) f fd ps (lift sd) := by
  refine F.okX Sc (fun vs H Q E h => ?_) (fun cdv A outer s H vs Q E hr h => ?_)
  · obtain ⟨O, S, ws, Qd, Ed, st, r, hs, _⟩ := h
    rw [r.len]
    exact len ws S Qd Ed hs
  · obtain ⟨O, S, ws, Qd, Ed, st, r, hs, L, LEd⟩ := h
    obtain ⟨td, h1, h2⟩ := body cdv A outer s ⟨O, S, H⟩ ws Qd Ed E hr (le_of st LEd) hs
    refine ⟨_, h1, O, _, _, rel0 st r, h2, ?_, ?_, fun _ _ _ _ z => z.elim, fun _ _ _ _ z => z.elim⟩
    · exact fun δ' O' σ' H' q e R => rt_ok (w := .dat .non) st L R.bs R.st .non q
    · exact fun u δ' O' σ' v H' q e R wr => rt_ok st L R.bs R.st wr q

/-! ### promises in addresses, as data -/
mutual
theorem Dv.da {H : Hp} {P : FP} (hp : ∀ a o, P a o → H a = some o) : ∀ (d : D) (v : V), Dv P v d → pure' d = true → Da K H v (py d)
  | .non, _, h, _ => by cases h; exact .non
  | .bl _, _, h, _ => by cases h; exact .bl _
  | .int _, _, h, _ => by cases h; exact .int _
  | .str _, _, h, _ => by cases h; exact .str _
  | .con _, _, _, z => by rw [pure'] at z; cases z
  | .ins _ _ _, _, _, z => by rw [pure'] at z; cases z
  | .dic _, _, _, z => by rw [pure'] at z; cases z
  | .dck _ _, _, _, z => by rw [pure'] at z; cases z
  | .dct _ _, _, _, z => by rw [pure'] at z; cases z
  | .lst ds, _, h, z => by
    rw [pure'] at z
    cases h with
    | lst e l => rw [py]; exact .lst (hp _ _ e) (DvAll.da hp ds _ l z)
  | .tup ds, _, h, z => by
    rw [pure'] at z
    cases h with
    | tup e l => rw [py]; exact .tup (hp _ _ e) (DvAll.da hp ds _ l z)
theorem DvAll.da {H : Hp} {P : FP} (hp : ∀ a o, P a o → H a = some o) : ∀ (ds : List D) (vs : List V), DvAll P vs ds → pures ds = true → DaAll K H vs (pys ds)
  | [], _, h, _ => by cases h; rw [pys]; exact .nil
  | d :: ds, _, h, z => by
    rw [pures, Bool.and_eq_true] at z
    cases h with
    | cons a b => rw [pys]; exact .cons (Dv.da hp d _ a z.1) (DvAll.da hp ds _ b z.2)
end
theorem Vw.da {O : List Addr} {S : Own} {H : Hp} {v : V} {d : D} (h : Vw (Fz O S H) H v d) (z : pure' d = true) : Da K H v (py d) := by
  cases d with
  | lst ds =>
    obtain ⟨a, xs, rfl, e, l⟩ := h
    rw [pure'] at z
    rw [py]
    exact .lst e (DvAll.da fz_hp ds _ l z)
  | tup ds =>
    obtain ⟨a, xs, rfl, e, l⟩ := h
    rw [pure'] at z
    rw [py]
    exact .tup e (DvAll.da fz_hp ds _ l z)
  | non => exact Dv.da fz_hp _ _ h z
  | bl b => exact Dv.da fz_hp _ _ h z
  | int i => exact Dv.da fz_hp _ _ h z
  | str x => exact Dv.da fz_hp _ _ h z
  | con x => rw [pure'] at z; cases z
  | ins _ _ _ => rw [pure'] at z; cases z
  | dic _ => rw [pure'] at z; cases z
  | dck _ _ => rw [pure'] at z; cases z
  | dct _ _ => rw [pure'] at z; cases z
/-- a judge of data -/
def sdD (f : PyData → Bool) : SpD := fun ws S Q _ => ∃ w d, ws = [w] ∧ Pk S w d ∧ pure' d = true ∧ Q (.dat (.bl (f (py d)))) S
theorem spD_v {k : Nat} {x : Str} {ps : List Str} {f : PyData → Bool} (C : Fd.Pr P w K mg base k x ps (spD K f)) : Fd.Pr P w K mg base k x ps (lift (sdD f)) := by
  obtain ⟨fa, fd, g, kp, b, F⟩ := C.ex
  refine ⟨fa, fd, g, kp, b, F.imp ?_⟩
  rintro vs H Q E ⟨O, S, ws, Qd, Ed, st, rs, ⟨w, d, rfl, pk, z, q⟩, L, _⟩
  obtain ⟨v, rfl, r⟩ := rs.one
  refine ⟨v, py d, rfl, (pk_vw st r pk).da z, fun H' s => ?_⟩
  obtain ⟨k1, k2⟩ := own_keep st s
  exact L.q _ S O _ H' q k2 k1 (.bl _)
mutual
def toV : PyData → D
  | .none => .non
  | .bool b => .bl b
  | .int i => .int i
  | .str x => .str x
  | .list ds => .lst (toVs ds)
  | .tuple ds => .tup (toVs ds)
  | .dict _ => .non
def toVs : List PyData → List D
  | [] => []
  | d :: ds => toV d :: toVs ds
end
mutual
/-- data without lists, told behind a def, is no owned thing -/
theorem Da.dv {O : List Addr} {S : Own} {H : Hp} (st : StoreOk O H S) : ∀ (d : PyData) (v : V), Da K H v d → noL d = true → Dv (Fz O S H) v (toV d)
  | .none, _, h, _ => by cases h; rw [toV]; exact .non
  | .bool _, _, h, _ => by cases h; rw [toV]; exact .bl _
  | .int _, _, h, _ => by cases h; rw [toV]; exact .int _
  | .str _, _, h, _ => by cases h; rw [toV]; exact .str _
  | .list _, _, _, z => by rw [noL] at z; cases z
  | .dict _, _, _, z => by rw [noL] at z; cases z
  | .tuple ds, _, h, z => by
    rw [noL] at z
    cases h with
    | tup e l =>
      rw [toV]
      refine .tup ⟨e, fun ⟨k, ob, h1, h2⟩ => ?_⟩ (DaAll.dv st ds _ l z)
      obtain ⟨a, h3, h4⟩ := st.ob k ob h2
      rw [h1] at h3
      cases h3
      exact h4.no e (fun _ z => nomatch z) (fun _ _ _ z => nomatch z) (fun _ z => nomatch z) (fun _ z => nomatch z)
theorem DaAll.dv {O : List Addr} {S : Own} {H : Hp} (st : StoreOk O H S) : ∀ (ds : List PyData) (vs : List V), DaAll K H vs ds → noLs ds = true → DvAll (Fz O S H) vs (toVs ds)
  | [], _, h, _ => by cases h; rw [toVs]; exact .nil
  | d :: ds, _, h, z => by
    rw [noLs, Bool.and_eq_true] at z
    cases h with
    | cons a b => rw [toVs]; exact .cons (Da.dv st d _ a z.1) (DaAll.dv st ds _ b z.2)
end
theorem toVs_map {α : Type} (f : α → PyData) (g : α → D) (h : ∀ a, toV (f a) = g a) : ∀ l : List α, toVs (l.map f) = l.map g
  | [] => by rw [List.map_nil, toVs]; rfl
  | a :: l => by rw [List.map_cons, toVs, h a, toVs_map f g h l]; rfl
theorem toV_it (i : Itm) : toV i.d = Itm.v i := by
  cases i with
  | put xs =>
    show toV (.tuple [.str "put", .tuple (xs.map PyData.int)]) = _
    rw [toV, toVs, toVs, toVs, toV, toV, toVs_map PyData.int D.int (fun a => by rw [toV])]
    rfl
  | plus k =>
    show toV (.tuple [.str "plus", .int k]) = _
    rw [toV, toVs, toVs, toVs, toV, toV]
    rfl
  | own j k =>
    show toV (.tuple [.str "own", .int j, .int k]) = _
    rw [toV, toVs, toVs, toVs, toVs, toV, toV, toV]
    rfl
theorem toV_ru (u : Ru) : toV u.d = Ru.v u := by
  obtain ⟨s, wd, its, nx⟩ := u
  have hw : toV wd.d = Wd.v wd := by cases wd <;> (show toV _ = _) <;> rfl
  have hn : toV (nextD nx) = nextV nx := by cases nx <;> (show toV _ = _) <;> rfl
  show toV (.tuple [.int s, wd.d, .tuple (its.map Itm.d), nextD nx]) = _
  rw [toV, toVs, toVs, toVs, toVs, toVs, toV, toV, hw, hn, toVs_map Itm.d Itm.v toV_it]
  rfl
theorem noLs_rus : ∀ us : List Ru, noLs (us.map Ru.d) = true
  | [] => by rw [List.map_nil, noLs]
  | u :: us => by rw [List.map_cons, noLs, noLs_rus us, noL_ru]; rfl
end
end Va

set_option maxRecDepth 100000
set_option maxHeartbeats 2000000
namespace Va
open PySem PySem.Spec PyProof.Rows L2 Fd

/-! ### data that == answers on -/
/-- plain, and so deep at most -/
structure Sh (n : Nat) (d : D) : Prop where
  p : pure' d = true
  c : PyData.canLay0 (py d) = true
  k : PyData.depth (py d) ≤ n
theorem Sh.le {n m : Nat} {d : D} (h : Sh n d) (l : n ≤ m) : Sh m d := ⟨h.p, h.c, Nat.le_trans h.k l⟩
theorem Sh.sh {n : Nat} {d : D} (h : Sh n d) (l : n ≤ 64) : shD d = true := by
  unfold shD SeqAt.shaped
  rw [h.p, h.c, decide_eq_true (Nat.le_trans h.k l)]
  rfl
theorem Sh.non : Sh 0 .non := ⟨rfl, by rw [py, PyData.canLay0], by rw [py, PyData.depth]; exact Nat.le_refl _⟩
theorem Sh.bl (b : Bool) : Sh 0 (.bl b) := ⟨rfl, by rw [py, PyData.canLay0], by rw [py, PyData.depth]; exact Nat.le_refl _⟩
theorem Sh.int (i : Int) : Sh 0 (.int i) := ⟨rfl, by rw [py, PyData.canLay0], by rw [py, PyData.depth]; exact Nat.le_refl _⟩
theorem Sh.str {x : Str} (h : PyData.canLay0 (.str x) = true) : Sh 0 (.str x) := ⟨rfl, by rw [py]; exact h, by rw [py, PyData.depth]; exact Nat.le_refl _⟩
theorem sh_all {n : Nat} : ∀ {ds : List D}, (∀ d ∈ ds, Sh n d) → pures ds = true ∧ PyData.canLayAll0 (pys ds) = true ∧ PyData.depthAll (pys ds) ≤ n
  | [], _ => ⟨rfl, by rw [pys, PyData.canLayAll0], by rw [pys, PyData.depthAll]; exact Nat.zero_le _⟩
  | d :: ds, h => by
    obtain ⟨h1, h2, h3⟩ := sh_all (ds := ds) fun e he => h e (List.mem_cons_of_mem _ he)
    have z := h d List.mem_cons_self
    exact ⟨by rw [pures, z.p, h1]; rfl, by rw [pys, PyData.canLayAll0, z.c, h2]; rfl, by rw [pys, PyData.depthAll]; exact Nat.max_le.mpr ⟨z.k, h3⟩⟩
theorem Sh.lst {n : Nat} {ds : List D} (h : ∀ d ∈ ds, Sh n d) : Sh (n + 1) (.lst ds) := by
  obtain ⟨h1, h2, h3⟩ := sh_all h
  exact ⟨by rw [pure']; exact h1, by rw [py, PyData.canLay0]; exact h2, by rw [py, PyData.depth]; exact Nat.succ_le_succ h3⟩
theorem Sh.tup {n : Nat} {ds : List D} (h : ∀ d ∈ ds, Sh n d) : Sh (n + 1) (.tup ds) := by
  obtain ⟨h1, h2, h3⟩ := sh_all h
  exact ⟨by rw [pure']; exact h1, by rw [py, PyData.canLay0]; exact h2, by rw [py, PyData.depth]; exact Nat.succ_le_succ h3⟩
theorem sh_ints (ns : List Int) : ∀ d ∈ ns.map D.int, Sh 0 d := fun d h => by
  obtain ⟨i, _, rfl⟩ := List.mem_map.mp h
  exact .int i
theorem sh_iv (ns : List Int) : Sh 1 (iv ns) := .tup (sh_ints ns)
theorem sh_it (i : Itm) : Sh 2 (Itm.v i) := by
  cases i with
  | put xs =>
    refine .tup fun d h => ?_
    rcases List.mem_cons.mp h with rfl | h
    · exact (Sh.str (by decide +kernel)).le (by decide)
    · rw [List.mem_singleton.mp h]
      exact sh_iv xs
  | plus k =>
    refine .tup fun d h => ?_
    rcases List.mem_cons.mp h with rfl | h
    · exact (Sh.str (by decide +kernel)).le (by decide)
    · rw [List.mem_singleton.mp h]
      exact (Sh.int k).le (by decide)
  | own j k =>
    refine .tup fun d h => ?_
    rcases List.mem_cons.mp h with rfl | h
    · exact (Sh.str (by decide +kernel)).le (by decide)
    · rcases List.mem_cons.mp h with rfl | h
      · exact (Sh.int j).le (by decide)
      · rw [List.mem_singleton.mp h]
        exact (Sh.int k).le (by decide)
theorem sh_ru (u : Ru) : Sh 4 (Ru.v u) := by
  refine .tup fun d h => ?_
  rcases List.mem_cons.mp h with rfl | h
  · exact (Sh.int _).le (by decide)
  rcases List.mem_cons.mp h with rfl | h
  · cases u.word with
    | sign s => exact (Sh.int s).le (by decide)
    | other => exact (Sh.str (by decide +kernel)).le (by decide)
    | fin => exact (Sh.str (by decide +kernel)).le (by decide)
  rcases List.mem_cons.mp h with rfl | h
  · refine .tup fun d h => ?_
    obtain ⟨i, _, rfl⟩ := List.mem_map.mp h
    exact sh_it i
  rw [List.mem_singleton.mp h]
  cases u.next with
  | none => exact Sh.non.le (by decide)
  | some n => exact (Sh.int n).le (by decide)
theorem sh_rus (us : List Ru) : Sh 5 (.tup (rusV us)) := .tup fun d h => by
  obtain ⟨u, _, rfl⟩ := List.mem_map.mp h
  exact sh_ru u
mutual
theorem eqv_self : ∀ d : PyData, PyData.canLay0 d = true → PyData.eqv d d = true
  | .none, _ => by simp [PyData.eqv]
  | .bool b, _ => by simp [PyData.eqv]
  | .int i, _ => by simp [PyData.eqv]
  | .str x, _ => by simp [PyData.eqv]
  | .list ds, h => by
    rw [PyData.canLay0] at h
    rw [PyData.eqv]
    exact eqvs_self ds h
  | .tuple ds, h => by
    rw [PyData.canLay0] at h
    rw [PyData.eqv]
    exact eqvs_self ds h
  | .dict _, h => by rw [PyData.canLay0] at h; cases h
theorem eqvs_self : ∀ ds : List PyData, PyData.canLayAll0 ds = true → PyData.eqvAll ds ds = true
  | [], _ => by rw [PyData.eqvAll]
  | d :: ds, h => by
    rw [PyData.canLayAll0, Bool.and_eq_true] at h
    rw [PyData.eqvAll, eqv_self d h.1, eqvs_self ds h.2]
    rfl
end
theorem Sh.eq {n : Nat} {d : D} (h : Sh n d) : eqD d d = true := eqv_self _ h.c
theorem pys_ints : ∀ ns : List Int, pys (ns.map D.int) = ns.map PyData.int
  | [] => by rw [List.map_nil, pys]; rfl
  | n :: ns => by rw [List.map_cons, pys, pys_ints ns, py]; rfl
theorem py_iv (ns : List Int) : py (iv ns) = .tuple (ns.map PyData.int) := by
  unfold iv
  rw [py, pys_ints]
theorem eq_iv (ms ns : List Int) : eqD (iv ms) (iv ns) = decide (ms = ns) := by
  unfold eqD
  rw [py_iv, py_iv, PyData.eqv]
  exact eqv_ints ms ns

/-! ### the script -/
theorem Rel.script {K : PySem.W.Frag} {H0 : Hp} {O : List Addr} {σ : L2.St} {H : Hp} {δ : DS} {a : Addr} {xs : List V} (R : Rel ⟨[], [], H0⟩ O σ H δ) (h : SqL K H0 a xs) : SqL K H a xs := by
  have up : ∀ o, H0 a = some o → H a = some o := fun o e => (R.bs.fz a o ⟨e, fun ⟨k, ob, z, _⟩ => by cases z⟩).1
  rcases h with h | h
  · refine .inl ?_
    rcases h with h | ⟨o, h⟩
    · exact .inl (up _ h)
    · exact .inr ⟨o, up _ h⟩
  · exact .inr h
section
variable {X : Cx} {B : Base} {e a b : Expr} {pos : Pos}
/-- tape = _law_tape(script), the first row of a law -/
def dTape (i : Nat) (sc : Addr) : DE := fun δ Q => δ.slots[i]? = some (some (.dat (.con (.ref sc)))) ∧ δ.own = [] ∧ ∀ T, TapeD T → Q (.own 0) ⟨δ.slots, [some (.lst T)]⟩
theorem v_tape {H0 : Hp} {i : Nat} {sc : Addr} {ns : List Int} {E : XK} (hs : SqL X.K H0 sc (ns.map V.int)) (hn : ns.length ≤ 63) (h : PE X e (tCall (spTape X.K) [] E (tCons (tVar i) tNil))) : PE X e (upE ⟨[], [], H0⟩ (dTape i sc)) := pe_imp h fun σ H Q ⟨O, δ, Qd, R, ⟨e0, eo, q⟩, L⟩ => by
  obtain ⟨v, h1, h2⟩ := R.sl i _ e0
  cases h2
  refine ⟨_, h1, sc, ns, rfl, R.script hs, hn, fun t c H' nt s T => ?_⟩
  have hO : O = [] := by
    have z := R.st.len
    rw [eo] at z
    exact List.eq_nil_of_length_eq_zero z
  subst hO
  obtain ⟨T', e1, xs, po, re, mi, cn, rfl, e2, p1, p2, p3⟩ := T
  have ne : c ≠ t := fun z => by
    rw [z, e1] at e2
    cases xs <;> cases e2
  have nlv : ∀ b, Lv [t] [some (Ob.lst [.lst (xs.map D.int), .int po, .int re, .int mi, .int cn])] b → b = t := fun b ⟨k, ob, z, _⟩ => by
    cases k with
    | zero => exact (Option.some.inj z).symm
    | succ k => simp at z
  have st : StoreOk [t] H' [some (Ob.lst [.lst (xs.map D.int), .int po, .int re, .int mi, .int cn])] := by
    refine ⟨rfl, by simp, fun b hb => ?_, fun k ob z => ?_⟩
    · rw [List.mem_singleton.mp hb]
      exact ⟨_, e1⟩
    · cases k with
      | zero =>
        cases z
        exact ⟨t, rfl, _, e1, .cons (.lst ⟨e2, fun z => ne (nlv c z)⟩ (.ints xs)) (.cons (.int _) (.cons (.int _) (.cons (.int _) (.cons (.int _) .nil))))⟩
      | succ k => simp at z
  have ex : Ext [] δ.own H [t] [some (Ob.lst [.lst (xs.map D.int), .int po, .int re, .int mi, .int cn])] H' := ⟨⟨[t], rfl⟩, fun b o ⟨z, _⟩ => ⟨s b o z, fun y => by
    rw [nlv b y, nt] at z
    cases z⟩⟩
  exact L _ _ [t] _ H' (q _ ⟨xs, po, re, mi, cn, rfl, p1, p2, p3⟩) ex (R.to st ex) ⟨t, rfl, rfl⟩

/-! ### == by an own __eq__ -/
def rEqOwn (C : Addr) (sp : Sp) (E : XK) : R2 := fun x y H Q => ∃ a b dx dy fs gs, x = .ref a ∧ y = .ref b ∧ H a = some (.ins C dx fs) ∧ H b = some (.ins C dy gs) ∧ sp [x, y] H (fun v H' => (∃ k, v = .bl k) ∧ Q v H') E
structure EqF (P : Program) (w : World) (K : PySem.W.Frag) (mg : Str → Option Value) (base : Heap) (n : Nat) (C : Addr) (ps : List Str) (sp : Sp) : Prop where
  ex : ∃ (f : Addr) (fd : FuncData), PySem.W.findIn K (.ref C) "__eq__" = some (some (.ref f)) ∧ PySem.W.isFn K (.ref f) = true ∧ Binds K fd ps [] ∧ FnOk P w K mg base (L2.CX P w) n f fd ps sp
theorem op_eqOwn {n : Nat} {C : Addr} {ps : List Str} {sp : Sp} {E : XK} (F : EqF X.prog X.w X.K X.mg X.base n C ps sp) (hr : Room n X.A) (hx : Passes (L2.CX X.prog X.w) X E) : OpR X (compareOp .Eq) (rEqOwn C sp E) := by
  intro pins s σ H x y v u Q I rx ry ⟨a, b, dx, dy, fs, gs, ex, ey, ha, hb', hsp⟩
  obtain ⟨f, fd, hs, hf, hb, F⟩ := F.ex
  subst ex ey
  cases rx
  cases ry
  obtain ⟨mA, J, _⟩ := ins_get I.hok ha
  obtain ⟨mB, J', _⟩ := ins_get I.hok hb'
  obtain ⟨od, J, _⟩ := J.look
  obtain ⟨od', J', _⟩ := J'.look
  obtain ⟨m, hF⟩ := I.fr
  show wpAny (model X.prog X.w) X.A (richCompare .Eq (.ref a) (.ref b)) (EP X pins σ Q) X.xe s
  refine PySem.W.cmp_K (op := .Eq) (tb := .ref C) hr.units0 hF I.ok.mod.kin J J'.type (by simp [PySem.W.notFirst]) hs hf ?_
  have hl := F.len _ _ _ _ hsp
  have r2 : Vals [V.ref a, V.ref b] [Value.ref a, Value.ref b] := .cons rfl (.cons rfl .nil)
  refine wpAny_call (codeAny_mono (F.run X.A X.stack s H ⟨[.ref a, .ref b], []⟩ [.ref a, .ref b] [.ref a, .ref b] _ E hr I.env0 (by
    have := hb s [.ref a, .ref b] I.kIn (by simpa using hl)
    simpa using this) r2 hsp) fun r s' hq => ?_)
  cases r with
  | error e => exact hx pins σ H s e s' I hq
  | ok fl =>
    cases fl with
    | ret w =>
      obtain ⟨z, H', I', rz, ⟨k, ez⟩, q⟩ := I.after hq
      subst ez
      cases rz
      exact ⟨.bl k, H', I', rfl, q⟩
    | next => exact False.elim hq
    | brk => exact False.elim hq
    | cont => exact False.elim hq
def rdEqOwn (C : Addr) (sd : SpD) (Ed : XD) : R2d := fun w u δ Q => ∃ ns ds ms es, Pk δ.own w (.ins C ns ds) ∧ Pk δ.own u (.ins C ms es) ∧ sd [w, u] δ.own (fun z S' => (∃ k, z = .dat (.bl k)) ∧ Q z ⟨δ.slots, S'⟩) Ed
theorem v_eqOwn {n : Nat} {C : Addr} {ps : List Str} {sd : SpD} {Ed : XD} {E : XK} {ta tb : DE} (le : LE B Ed E) (F : EqF X.prog X.w X.K X.mg X.base n C ps (lift sd)) (hr : Room n X.A) (hx : Passes (L2.CX X.prog X.w) X E) (ha : PE X a (upE B ta)) (hb : PE X b (upE B tb)) (hm : behindInMarks .Eq b = false := by exact nomark _) :
    PE X (.Compare a [.Eq] [b] pos) (upE B (d2 (rdEqOwn C sd Ed) ta tb)) := pe_imp (pe_cmpR (op_eqOwn F hr hx) ha hb hm) fun σ H Q ⟨O, δ, Qd, R, h, L⟩ =>
  ⟨O, δ, _, R, h, fun w δ1 O1 v H1 q e1 R1 r1 => ⟨O1, δ1, _, R1, q, fun u δ2 O2 y H2 ⟨ns, ds, ms, es, p1, p2, q2⟩ e2 R2 r2 => by
    have r1 := r1.ext e2
    obtain ⟨a, dx, xs, rfl, ea, _⟩ := pk_vw R2.st r1 p1
    obtain ⟨b, dy, ys, rfl, eb, _⟩ := pk_vw R2.st r2 p2
    refine ⟨a, b, dx, dy, _, _, rfl, rfl, ea, eb, O2, δ2.own, _, _, Ed, R2.st, .cons r1 (.cons r2 .nil), q2, ⟨fun z S' O' v H' q' e' st' wr => ?_⟩, ⟨fun C d S' O' dd v H' q' e' st' hv hd => le C d S' O' dd v H' q' (R2.bs.trans e') st' hv hd⟩⟩
    obtain ⟨⟨k, ez⟩, q'⟩ := q'
    subst ez
    cases wr
    exact ⟨⟨k, rfl⟩, L _ _ O' _ H' q' ((e1.trans e2).trans e') (R2.to st' e') (.bl k)⟩⟩⟩

/-! ### isinstance with a class of one's own, repr -/
structure ClsIs (K : PySem.W.Frag) (C : Addr) : Prop where
  cl : Cls K C
  ha : PySem.W.findIn K (.ref C) "__class__" = some (some (.builtin "object.__class__"))
  hn : PySem.W.specialIn K (.builtin "object.__class__") "__get__" = some (some (.builtin "getset_descriptor.__get__"))
  ht : PySem.W.takesIn K (.builtin "object.__class__") = some true
  hm : PySem.W.mroIn K C (.type "object") = some true
  ko : PySem.W.kitOne K (.ref C) (.ref C) = some true
def rdIsiC (C : Addr) : RCd := fun ws δ Q => ∃ w ns ds, ws = [w, .dat (.con (.ref C))] ∧ Pk δ.own w (.ins C ns ds) ∧ Q (.dat (.bl true)) δ
theorem up_isiC {K : PySem.W.Frag} {C : Addr} (c : ClsIs K C) : UpC (rIsi K) (rdIsiC C) := by
  rintro B O σ H δ vs ws Qd Q R rs ⟨w, ns, ds, rfl, p, q⟩ L
  obtain ⟨v, x, rfl, r1, r2⟩ := rs.two
  cases r2
  obtain ⟨a, dx, xs, rfl, e, _⟩ := pk_vw R.st r1 p
  exact ⟨.ref a, _, _, _, _, rfl, .own C, .base (.ins e c.cl c.ha c.hn c.ht c.hm), c.ko, L _ δ O _ H q .refl R (.bl _)⟩
def rdRepr : RCd := fun ws δ Q => ∃ w d, ws = [w] ∧ Pk δ.own w d ∧ pure' d = true ∧ (py d).showable = true ∧ (py d).shown.length ≤ sizeLine ∧ (py d).depth ≤ 50 ∧ Q (.dat (.str (py d).shown)) δ
theorem up_repr {K : PySem.W.Frag} : UpC (rRepr K) rdRepr := by
  rintro B O σ H δ vs ws Qd Q R rs ⟨w, d, rfl, p, z, h1, h2, h3, q⟩ L
  obtain ⟨v, rfl, r⟩ := rs.one
  exact ⟨v, py d, rfl, (pk_vw R.st r p).da z, h1, h2, h3, L _ δ O _ H q .refl R (.str _)⟩
end

/-! ### rules.py -/
section
variable {P : Program} {w : World} {K : PySem.W.Frag} {mg : Str → Option Value} {base : Heap}
def sdRulesTail : SpD := fun ws S Q _ => ∃ bs : List Int, ws = [.dat (iv bs)] ∧ Sgn bs ∧ bs.length ≤ 10000000 ∧ Q (.dat (.tup [.tup (rusV (rulesOf bs.length (bs.drop 1)).1), iv (rulesOf bs.length (bs.drop 1)).2])) S
def bodyNs : List Str := ["body", "start", "rules", "tail"]
def bodyDs (bs : List Int) : List D := [iv bs, .int (bs.headD 0), .tup (rusV (rulesOf bs.length (bs.drop 1)).1), iv (rulesOf bs.length (bs.drop 1)).2]
/-- Rules(body) for a row -/
def sdInitR (C : Addr) : SpD := fun ws S Q _ => ∃ (k : Nat) (w : W) (bs : List Int), ws = [.own k, w] ∧ S[k]? = some (some (.ins C [] [])) ∧ PkS S w (bs.map D.int) ∧ Sgn bs ∧ bs.length ≤ 1000000 ∧ w ≠ .own k ∧ Q (.dat .non) (S.set k (some (.ins C bodyNs (bodyDs bs))))
def sdEqR (C : Addr) : SpD := fun ws S Q _ => ∃ (w u : W) (bs cs : List Int), ws = [w, u] ∧ Pk S w (.ins C bodyNs (bodyDs bs)) ∧ Pk S u (.ins C bodyNs (bodyDs cs)) ∧ Q (.dat (.bl (decide (bs = cs)))) S
theorem put2_new {α : Type} {f : Str} {a : α} : ∀ {ns : List Str} {xs : List α}, f ∉ ns → ns.length = xs.length → put2 f a ns xs = (ns ++ [f], xs ++ [a])
  | [], [], _, _ => rfl
  | n :: ns, x :: xs, h, l => by
    unfold put2
    rw [if_neg (fun z => h (by rw [z]; exact List.mem_cons_self)), put2_new (fun z => h (List.mem_cons_of_mem _ z)) (by simpa using l)]
    rfl
end
end Va

set_option maxRecDepth 100000
set_option maxHeartbeats 2000000
namespace Va
open PySem PySem.Spec PyProof.Rows L2 Fd
/-! ### rules.py, in addresses -/

/-- an item that begins at the place, and the place behind it -/
def spItemAt (K : PySem.W.Frag) : Sp := fun vs H Q _ => ∃ (b : Addr) (bs : List Int) (i : Nat), vs = [.ref b, .int (i : Int)] ∧ H b = some (.tup (bs.map V.int)) ∧ Sgn bs ∧ (∀ H', itemOf (bs.drop i) = none → Same H H' → Q .non H') ∧
  ∀ it r p q H', itemOf (bs.drop i) = some (it, r) → Same H H' → H' p = some (.tup [.ref q, .int ((bs.length - r.length : Nat) : Int)]) → Da K H' (.ref q) it.d → Q (.ref p) H'
def spWordAt (K : PySem.W.Frag) : Sp := fun vs H Q _ => ∃ (b : Addr) (bs : List Int) (i : Nat), vs = [.ref b, .int (i : Int)] ∧ H b = some (.tup (bs.map V.int)) ∧ Sgn bs ∧ (∀ H', wordOf (bs.drop i) = none → Same H H' → Q .non H') ∧
  ∀ w r p v H', wordOf (bs.drop i) = some (w, r) → Same H H' → H' p = some (.tup [v, .int ((bs.length - r.length : Nat) : Int)]) → Da K H' v w.d → Q (.ref p) H'
def spItemsAt (K : PySem.W.Frag) : Sp := fun vs H Q _ => ∃ (b : Addr) (bs : List Int) (i : Nat), vs = [.ref b, .int (i : Int)] ∧ H b = some (.tup (bs.map V.int)) ∧ Sgn bs ∧ i ≤ bs.length ∧ (∀ H', itemsAt (bs.drop i) = none → Same H H' → Q .non H') ∧
  ∀ its r p q H', itemsAt (bs.drop i) = some (its, r) → Same H H' → H' p = some (.tup [.ref q, .int ((bs.length - r.length : Nat) : Int)]) → Da K H' (.ref q) (.tuple (its.map Itm.d)) → Q (.ref p) H'
@[irreducible] def spRuleAt (K : PySem.W.Frag) : Sp := fun vs H Q _ => ∃ (b : Addr) (bs : List Int) (i : Nat), vs = [.ref b, .int (i : Int)] ∧ H b = some (.tup (bs.map V.int)) ∧ Sgn bs ∧ (∀ H', ruleOf (bs.drop i) = none → Same H H' → Q .non H') ∧
  ∀ u r p q H', ruleOf (bs.drop i) = some (u, r) → Same H H' → H' p = some (.tup [.ref q, .int ((bs.length - r.length : Nat) : Int)]) → Da K H' (.ref q) u.d → Q (.ref p) H'
def spRulesTail (K : PySem.W.Frag) : Sp := fun vs H Q _ => ∃ (b : Addr) (bs : List Int), vs = [.ref b] ∧ H b = some (.tup (bs.map V.int)) ∧ Sgn bs ∧ bs.length ≤ 10000000 ∧ ∀ p q t H', Same H H' → H' p = some (.tup [.ref q, .ref t]) →
  Da K H' (.ref q) (.tuple ((rulesOf bs.length (bs.drop 1)).1.map Ru.d)) → H' t = some (.tup ((rulesOf bs.length (bs.drop 1)).2.map V.int)) → Q (.ref p) H'

section
variable {P : Program} {w : World} {K : PySem.W.Frag} {mg : Str → Option Value} {base : Heap}
theorem tail_v {k : Nat} {x : Str} {ps : List Str} (C : Fd.Pr P w K mg base k x ps (spRulesTail K)) : Fd.Pr P w K mg base k x ps (lift sdRulesTail) := by
  obtain ⟨fa, fd, g, kp, b, F⟩ := C.ex
  refine ⟨fa, fd, g, kp, b, F.imp ?_⟩
  rintro vs H Q E ⟨O, S, ws, Qd, Ed, st, rs, ⟨bs, rfl, hs, hl, q⟩, L, _⟩
  obtain ⟨v, rfl, r⟩ := rs.one
  cases r with
  | @tup a xs _ e l =>
    rw [l.intsInv] at e
    refine ⟨a, bs, rfl, e.1, hs, hl, fun p qq t H' s e1 e2 e3 => ?_⟩
    obtain ⟨k1, k2⟩ := own_keep st s
    refine L.q _ S O _ H' q k2 k1 ?_
    have nt : ∀ (z : Addr) (ys : List V), H' z = some (.tup ys) → ¬ Lv O S z := fun z ys hz ⟨k, ob, h1, h2⟩ => by
      obtain ⟨a', h3, h4⟩ := k1.ob k ob h2
      rw [h1] at h3
      cases h3
      exact h4.no hz (fun _ z => nomatch z) (fun _ _ _ z => nomatch z) (fun _ z => nomatch z) (fun _ z => nomatch z)
    refine Dv.tup ⟨e1, nt p _ e1⟩ (.cons ?_ (.cons (.tup ⟨e3, nt t _ e3⟩ (.ints _)) .nil))
    have z := Da.dv k1 _ _ e2 (by rw [noL]; exact noLs_rus _)
    rw [toV, toVs_map Ru.d Ru.v toV_ru] at z
    exact z
end
end Va

set_option maxRecDepth 100000
set_option maxHeartbeats 2000000
namespace Va
open PySem PySem.Spec PyProof.Rows L2 Fd

theorem TapeIn.push {S : Own} {t : Nat} {x : Option Ob} (h : TapeIn S t) : TapeIn (S ++ [x]) t := by
  obtain ⟨T, e, hT⟩ := h
  exact ⟨T, get_push e, hT⟩
theorem TapeIn.set {S : Own} {t k : Nat} {x : Option Ob} (h : TapeIn S t) (n : k ≠ t) : TapeIn (S.set k x) t := by
  obtain ⟨T, e, hT⟩ := h
  exact ⟨T, by rw [List.getElem?_set_ne n]; exact e, hT⟩
theorem get_set {S : Own} {k j : Nat} {x y : Option Ob} (e : S[k]? = some x) (n : j ≠ k) : (S.set j y)[k]? = some x := by rw [List.getElem?_set_ne n]; exact e
/-! ### what is read is made of signs -/
theorem itemOf_ok {r r' : List Int} {it : Itm} (hs : Sgn r) (h : itemOf r = some (it, r')) : ItOk it ∧ (itI it).length + r'.length = r.length := by
  unfold itemOf at h
  split at h
  · rename_i n r0
    split at h
    · cases h
      have hn := hs n (by simp)
      have hl : (r0.take n.toNat).length = n.toNat := by rw [List.length_take]; omega
      refine ⟨⟨fun z hz => hs z (by simp [List.mem_of_mem_take hz]), by omega⟩, ?_⟩
      simp only [itI, List.length_cons, List.length_drop]
      omega
    · cases h
  · cases h
    rename_i k
    exact ⟨hs k (by simp), by simp [itI]; omega⟩
  · cases h
    rename_i j k
    exact ⟨⟨hs j (by simp), hs k (by simp)⟩, by simp [itI]; omega⟩
  · cases h
theorem Sgn.suf {r r' : List Int} (hs : Sgn r) (h : r' <:+ r) : Sgn r' := fun z hz => hs z (h.mem hz)
theorem itemsOf_ok : ∀ {n : Nat} {r r' : List Int} {is : List Itm}, Sgn r → itemsOf n r = some (is, r') → (∀ i ∈ is, ItOk i) ∧ is.length = n ∧ (itsI is).length + r'.length = r.length
  | 0, r, r', is, hs, h => by
    cases h
    exact ⟨(fun z hz => nomatch hz), rfl, by simp [itsI]⟩
  | n + 1, r, r', is, hs, h => by
    unfold itemsOf at h
    cases e : itemOf r with
    | none => rw [e] at h; cases h
    | some p =>
      rw [e] at h
      cases e2 : itemsOf n p.2 with
      | none => rw [Option.bind_some, e2] at h; cases h
      | some q =>
        rw [Option.bind_some, e2] at h
        cases h
        obtain ⟨h1, h2⟩ := itemOf_ok hs e
        obtain ⟨h3, h4, h5⟩ := itemsOf_ok (Sgn.suf hs (itemOf_suffix e)) e2
        refine ⟨fun i hi => ?_, by rw [List.length_cons, h4], ?_⟩
        · rcases List.mem_cons.mp hi with rfl | hi
          · exact h1
          · exact h3 i hi
        · show (itI p.1 ++ itsI q.1).length + _ = _
          rw [List.length_append]
          omega
theorem ruleOf_ok {r r' : List Int} {u : Ru} (hs : Sgn r) (h : ruleOf r = some (u, r')) : RuOk u ∧ (ruI u).length + r'.length = r.length := by
  cases r with
  | nil => cases h
  | cons s r =>
  have hs0 := hs s List.mem_cons_self
  have hs1 : Sgn r := Sgn.suf hs (List.suffix_cons _ _)
  have h : (wordOf r).bind (fun p => (itemsAt p.2).bind fun q => ruleEnd s p.1 q.1 q.2) = some (u, r') := h
  obtain ⟨⟨w, r2⟩, e1, h⟩ := Option.bind_eq_some_iff.mp h
  obtain ⟨⟨its, r3⟩, e2, h⟩ := Option.bind_eq_some_iff.mp h
  have hs2 := Sgn.suf hs1 (wordOf_suffix e1)
  have hw : WdOk w ∧ (wdI w).length + r2.length = r.length := by
    unfold wordOf at e1
    split at e1
    · cases e1
      exact ⟨trivial, by simp [wdI]; omega⟩
    · cases e1
      exact ⟨trivial, by simp [wdI]; omega⟩
    · cases e1
      exact ⟨hs1 _ (List.mem_cons_of_mem _ List.mem_cons_self), by simp [wdI]; omega⟩
    · cases e1
  have hi : (∀ i ∈ its, ItOk i) ∧ its.length ≤ 99 ∧ (itsI its).length + r3.length + 1 = r2.length := by
    cases r2 with
    | nil => cases e2
    | cons n r2 =>
      obtain ⟨h1, h2, h3⟩ := itemsOf_ok (Sgn.suf hs2 (List.suffix_cons _ _)) (show itemsOf n.toNat r2 = some (its, r3) from e2)
      have hn := hs2 n List.mem_cons_self
      exact ⟨h1, by omega, by rw [List.length_cons]; omega⟩
  have hs3 : Sgn r3 := Sgn.suf hs2 (itemsAt_suffix e2)
  obtain ⟨hw1, hw2⟩ := hw
  obtain ⟨hi1, hi2, hi3⟩ := hi
  cases w with
  | fin =>
    cases h
    refine ⟨⟨hs0, hw1, hi1, hi2, trivial⟩, ?_⟩
    simp only [ruI, nxI, List.length_cons, List.length_append, List.length_nil] at hw2 ⊢
    omega
  | sign x =>
    cases r3 with
    | nil => cases h
    | cons f r4 =>
      cases h
      refine ⟨⟨hs0, hw1, hi1, hi2, hs3 f List.mem_cons_self⟩, ?_⟩
      simp only [ruI, nxI, List.length_cons, List.length_append, List.length_nil] at hw2 hi3 ⊢
      omega
  | other =>
    cases r3 with
    | nil => cases h
    | cons f r4 =>
      cases h
      refine ⟨⟨hs0, hw1, hi1, hi2, hs3 f List.mem_cons_self⟩, ?_⟩
      simp only [ruI, nxI, List.length_cons, List.length_append, List.length_nil] at hw2 hi3 ⊢
      omega
theorem rulesOf_ok : ∀ {n : Nat} {r : List Int}, Sgn r → RusOk (rulesOf n r).1 ∧ (rusI (rulesOf n r).1).length + (rulesOf n r).2.length = r.length ∧ (rulesOf n r).2 <:+ r
  | 0, r, _ => ⟨(fun z hz => nomatch hz), by simp [rulesOf, rusI], List.suffix_refl _⟩
  | n + 1, r, hs => by
    cases e : ruleOf r with
    | none =>
      rw [rulesOf_stop e]
      exact ⟨(fun z hz => nomatch hz), by simp [rusI], List.suffix_refl _⟩
    | some p =>
      obtain ⟨u, r'⟩ := p
      obtain ⟨h1, h2⟩ := ruleOf_ok hs e
      obtain ⟨hsf, _⟩ := ruleOf_less e
      obtain ⟨h3, h4, h5⟩ := rulesOf_ok (n := n) (Sgn.suf hs hsf)
      rw [rulesOf_step e]
      refine ⟨fun z hz => ?_, ?_, h5.trans hsf⟩
      · rcases List.mem_cons.mp hz with rfl | hz
        · exact h1
        · exact h3 z hz
      · show (ruI u ++ rusI (rulesOf n r').1).length + (rulesOf n r').2.length = _
        rw [List.length_append]
        omega

/-! ### how long it is when it is written -/
theorem py_it (i : Itm) : py (Itm.v i) = i.d := by
  cases i with
  | put xs =>
    show py (.tup [.str "put", iv xs]) = _
    rw [py, pys, pys, pys, py_iv, py]
    rfl
  | plus k =>
    show py (.tup [.str "plus", .int k]) = _
    rw [py, pys, pys, pys, py, py]
    rfl
  | own j k =>
    show py (.tup [.str "own", .int j, .int k]) = _
    rw [py, pys, pys, pys, pys, py, py, py]
    rfl
theorem pys_map {α : Type} (f : α → D) (g : α → PyData) (h : ∀ a, py (f a) = g a) : ∀ l : List α, pys (l.map f) = l.map g
  | [] => by rw [List.map_nil, pys]; rfl
  | a :: l => by rw [List.map_cons, pys, h a, pys_map f g h l]; rfl
theorem py_ru (u : Ru) : py (Ru.v u) = u.d := by
  obtain ⟨s, wd, its, nx⟩ := u
  have hw : py (Wd.v wd) = wd.d := by cases wd <;> (show py _ = _) <;> rfl
  have hn : py (nextV nx) = nextD nx := by cases nx <;> (show py _ = _) <;> rfl
  show py (.tup [.int s, Wd.v wd, .tup (itsV its), nextV nx]) = _
  rw [py, pys, pys, pys, pys, pys, py, py, hw, hn]
  unfold itsV
  rw [pys_map Itm.v Itm.d py_it]
  rfl
theorem FnS {k m : Nat} {ds : List PyData} (h : ∀ d ∈ ds, d.showable = true ∧ d.depth ≤ k) (l : piled (PyData.shownAll ds) ≤ m) : Fn (.tuple ds) (m + 3) (k + 1) := by
  refine ⟨?_, ?_, ?_⟩
  · rw [PyData.showable]
    exact showableAll_of ds fun d hd => (h d hd).1
  · rw [PyData.shown]
    generalize PyData.shownAll ds = ts at l
    have e3 : (Str.join ", " ts).length ≤ piled ts := by
      cases ts with
      | nil => exact Nat.le_refl _
      | cons t r =>
        have z := join_length_add (t :: r) (by simp)
        omega
    unfold tupleText
    rw [strLen_append, strLen_append]
    have e4 : ("(" : Str).length = 1 := rfl
    have e5 : (Str.ofString (if ts.length == 1 then ",)" else ")" : String)).length ≤ 2 := by split <;> decide
    omega
  · rw [PyData.depth]
    exact Nat.succ_le_succ (depthAll_of ds fun d hd => (h d hd).2)
theorem Fn.iv {xs : List Int} (h : Sgn xs) : Fn (.tuple (xs.map PyData.int)) (3 + xs.length * 48) 1 := by
  have z := Fn.tup (n := 46) (k := 0) (ds := xs.map PyData.int) (Fn.ints (Sgn.small h))
  rw [List.length_map] at z
  exact z
theorem Fn.sgn {i : Int} (h : 0 ≤ i ∧ i < 100) : Fn (.int i) 46 0 := .int (by
  have z : i.natAbs < 100 := by omega
  exact Nat.lt_of_lt_of_le z (by decide))
theorem piled_nil : piled [] = 0 := rfl
theorem fn_it {i : Itm} (h : ItOk i) : Fn i.d ((itI i).length * 48) 2 := by
  cases i with
  | put xs =>
    have a := Fn.str (x := "put") (n := 6) (by decide +kernel)
    have b := Fn.iv h.1
    refine (FnS (ds := [.str "put", .tuple (xs.map PyData.int)]) (k := 1) (m := 6 + 2 + (3 + xs.length * 48 + 2)) (fun d hd => ?_) ?_).le ?_ (Nat.le_refl _)
    · rcases List.mem_cons.mp hd with rfl | hd
      · exact ⟨a.show', Nat.le_trans a.dep (by decide)⟩
      · rw [List.mem_singleton.mp hd]
        exact ⟨b.show', b.dep⟩
    · rw [PyData.shownAll, PyData.shownAll, PyData.shownAll, piled_cons, piled_cons, piled_nil]
      have := a.len
      have := b.len
      omega
    · simp only [itI, List.length_cons]
      omega
  | plus k =>
    have a := Fn.str (x := "plus") (n := 7) (by decide +kernel)
    have b := Fn.sgn h
    refine (FnS (ds := [.str "plus", .int k]) (k := 1) (m := 7 + 2 + (46 + 2)) (fun d hd => ?_) ?_).le (by simp only [itI, List.length_cons, List.length_nil]; omega) (Nat.le_refl _)
    · rcases List.mem_cons.mp hd with rfl | hd
      · exact ⟨a.show', Nat.le_trans a.dep (by decide)⟩
      · rw [List.mem_singleton.mp hd]
        exact ⟨b.show', Nat.le_trans b.dep (by decide)⟩
    · rw [PyData.shownAll, PyData.shownAll, PyData.shownAll, piled_cons, piled_cons, piled_nil]
      have := a.len
      have := b.len
      omega
  | own j k =>
    have a := Fn.str (x := "own") (n := 6) (by decide +kernel)
    have b := Fn.sgn h.1
    have c := Fn.sgn h.2
    refine (FnS (ds := [.str "own", .int j, .int k]) (k := 1) (m := 6 + 2 + (46 + 2 + (46 + 2))) (fun d hd => ?_) ?_).le (by simp only [itI, List.length_cons, List.length_nil]; omega) (Nat.le_refl _)
    · rcases List.mem_cons.mp hd with rfl | hd
      · exact ⟨a.show', Nat.le_trans a.dep (by decide)⟩
      rcases List.mem_cons.mp hd with rfl | hd
      · exact ⟨b.show', Nat.le_trans b.dep (by decide)⟩
      · rw [List.mem_singleton.mp hd]
        exact ⟨c.show', Nat.le_trans c.dep (by decide)⟩
    · rw [PyData.shownAll, PyData.shownAll, PyData.shownAll, PyData.shownAll, piled_cons, piled_cons, piled_cons, piled_nil]
      have := a.len
      have := b.len
      have := c.len
      omega
theorem piled_its : ∀ {is : List Itm}, (∀ i ∈ is, ItOk i) → piled (PyData.shownAll (is.map Itm.d)) ≤ (itsI is).length * 50
  | [], _ => by rw [List.map_nil, PyData.shownAll]; exact Nat.zero_le _
  | i :: is, h => by
    have a := (fn_it (h i List.mem_cons_self)).len
    have b := piled_its (is := is) fun j hj => h j (List.mem_cons_of_mem _ hj)
    rw [List.map_cons, PyData.shownAll, piled_cons]
    show _ ≤ (itI i ++ itsI is).length * 50
    rw [List.length_append]
    have c : 1 ≤ (itI i).length := by cases i <;> simp [itI]
    omega
theorem fn_ru {u : Ru} (h : RuOk u) : Fn u.d ((ruI u).length * 70) 4 := by
  obtain ⟨s, wd, its, nx⟩ := u
  have a : Fn (.int s) 46 0 := Fn.sgn h.st
  have c : Fn (.tuple (its.map Itm.d)) ((itsI its).length * 50 + 3) 3 := FnS (fun d hd => by
    obtain ⟨i, hi, rfl⟩ := List.mem_map.mp hd
    have z := fn_it (h.its i hi)
    exact ⟨z.show', z.dep⟩) (piled_its h.its)
  have b : Fn wd.d 46 0 := by
    cases wd with
    | sign x => exact Fn.sgn h.wd
    | other => exact Fn.str (by decide +kernel)
    | fin => exact Fn.str (by decide +kernel)
  have e : Fn (nextD nx) 46 0 := by
    cases nx with
    | none => exact Fn.non.le (by decide) (by decide)
    | some n =>
      have z := h.nx
      cases wd with
      | fin => exact z.elim
      | sign x => exact Fn.sgn z
      | other => exact Fn.sgn z
  refine (FnS (ds := [.int s, wd.d, .tuple (its.map Itm.d), nextD nx]) (k := 3) (m := 46 + 2 + (46 + 2 + ((itsI its).length * 50 + 3 + 2 + (46 + 2)))) (fun d hd => ?_) ?_).le ?_ (Nat.le_refl _)
  · rcases List.mem_cons.mp hd with rfl | hd
    · exact ⟨a.show', Nat.le_trans a.dep (by decide)⟩
    rcases List.mem_cons.mp hd with rfl | hd
    · exact ⟨b.show', Nat.le_trans b.dep (by decide)⟩
    rcases List.mem_cons.mp hd with rfl | hd
    · exact ⟨c.show', c.dep⟩
    · rw [List.mem_singleton.mp hd]
      exact ⟨e.show', Nat.le_trans e.dep (by decide)⟩
  · rw [PyData.shownAll, PyData.shownAll, PyData.shownAll, PyData.shownAll, PyData.shownAll, piled_cons, piled_cons, piled_cons, piled_cons, piled_nil]
    have := a.len
    have := b.len
    have := c.len
    have := e.len
    omega
  · have w1 : 1 ≤ (wdI wd).length := by cases wd <;> simp [wdI]
    simp only [ruI, List.length_cons, List.length_append]
    omega
theorem piled_rus : ∀ {us : List Ru}, RusOk us → piled (PyData.shownAll (us.map Ru.d)) ≤ (rusI us).length * 71
  | [], _ => by rw [List.map_nil, PyData.shownAll]; exact Nat.zero_le _
  | u :: us, h => by
    have a := (fn_ru (h u List.mem_cons_self)).len
    have b := piled_rus (us := us) fun j hj => h j (List.mem_cons_of_mem _ hj)
    rw [List.map_cons, PyData.shownAll, piled_cons]
    show _ ≤ (ruI u ++ rusI us).length * 71
    rw [List.length_append]
    have c : 2 ≤ (ruI u).length := by simp only [ruI, List.length_cons, List.length_append]; omega
    omega
theorem fn_rus {us : List Ru} (h : RusOk us) : Fn (py (.tup (rusV us))) ((rusI us).length * 71 + 3) 5 := by
  rw [py]
  unfold rusV
  rw [pys_map Ru.v Ru.d py_ru]
  exact FnS (fun d hd => by
    obtain ⟨u, hu, rfl⟩ := List.mem_map.mp hd
    have z := fn_ru (h u hu)
    exact ⟨z.show', z.dep⟩) (piled_rus h)
end Va
namespace Va
open PySem PySem.Spec PyProof.Rows L2 Fd
theorem itI_sgn {i : Itm} (h : ItOk i) : Sgn (itI i) := by
  cases i with
  | put xs =>
    have h2 := h.2
    exact Sgn.cons (by decide) (by decide) (Sgn.cons (by omega) (by omega) h.1)
  | plus k => exact Sgn.cons (by decide) (by decide) (Sgn.cons h.1 h.2 fun z hz => nomatch hz)
  | own j k => exact Sgn.cons (by decide) (by decide) (Sgn.cons h.1.1 h.1.2 (Sgn.cons h.2.1 h.2.2 fun z hz => nomatch hz))
theorem ruI_sgn {u : Ru} (h : RuOk u) : Sgn (ruI u) := by
  refine Sgn.cons h.st.1 h.st.2 (Sgn.app ?_ (Sgn.cons (by omega) (by have := h.few; omega) (Sgn.app ?_ ?_)))
  · have z := h.wd
    cases c : u.word with
    | sign s =>
      rw [c] at z
      exact Sgn.cons (by decide) (by decide) (Sgn.cons z.1 z.2 fun z hz => nomatch hz)
    | other => exact Sgn.cons (by decide) (by decide) fun z hz => nomatch hz
    | fin => exact Sgn.cons (by decide) (by decide) fun z hz => nomatch hz
  · intro z hz
    obtain ⟨l, hl, hz⟩ := List.mem_flatten.mp hz
    obtain ⟨i, hi, rfl⟩ := List.mem_map.mp hl
    exact itI_sgn (h.its i hi) z hz
  · have z := h.nx
    cases c : u.next with
    | none => exact fun z hz => nomatch hz
    | some n =>
      rw [c] at z
      cases c2 : u.word with
      | fin => rw [c2] at z; exact z.elim
      | sign s => rw [c2] at z; exact Sgn.cons z.1 z.2 fun z hz => nomatch hz
      | other => rw [c2] at z; exact Sgn.cons z.1 z.2 fun z hz => nomatch hz
end Va
namespace Va
theorem ifF {c : Bool} {A B : Prop} (h : c = false) (b : B) : if c = true then A else B := by
  subst h
  exact b
theorem ifT {c : Bool} {A B : Prop} (h : c = true) (a : A) : if c = true then A else B := by
  subst h
  exact a
theorem Sh.ne {n : Nat} {d : D} (h : Sh n d) : (!eqD d d) = false := by rw [h.eq]; rfl
end Va

set_option maxRecDepth 100000
set_option maxHeartbeats 2000000
namespace Va
open PySem PySem.Spec PyProof.Rows L2 Fd

/-! ### enumerate(list or tuple) -/
abbrev enumO (a : Addr) : Obj := { cls := .type "enumerate", data := .fields #[.none, .bool false, .ref a, rawInt 0, .none, .none] }
/-- enumerate(v) makes two new objects -/
theorem enum_new {v : Value} {o : Obj} {G : Heap → Prop} (b : Begins v o G) : Meets (Builtin.«enumerate.__new__» ⟨[.type "enumerate", v], []⟩)
    (fun _ R s => G s.heap ∧ R (.ok (.ret (.ref (s.heap.push o).objs.size))) { s with heap := (s.heap.push o).push (enumO s.heap.objs.size) }) := by
  refine .of_wp fun prog w A R s h => ?_
  have hs := sub_enumerate
  rcases s with ⟨h0, g, d, tk, os⟩
  have it0 : ∀ {A1 : Around} {F : Value → Shared → Prop} {Q : Value → Shared → Prop}, Q (.ref h0.objs.size) ⟨h0.push o, g, d, tk, os⟩ → wpAny (model prog w) A1 (pyIter v) Q F ⟨h0, g, d, tk, os⟩ := fun q => b.iter _ _ _ _ _ _ h.1 q
  wp_walk using it0
  refine wpAny_stack_any fun _ => wpAny_pure ?_
  split
  rotate_left
  · wp_walk using it0
    exact ⟨_, rfl, h.2⟩
  rename_i c _ _ _ _ _
  cases (c == Value.type "enumerate") <;> (wp_walk using it0; exact ⟨_, rfl, h.2⟩)
theorem enum_call {prog : Program} {w : World} {A : Around} {Er : Value → Shared → Prop} {s : Shared} {v : Value} {o : Obj} {G : Heap → Prop} {Q : Value → Shared → Prop} (b : Begins v o G) (hG : G s.heap)
    (q : ∀ h1, IsEnum h1 (s.heap.objs.size + 1) s.heap.objs.size 0 .none → h1.get? s.heap.objs.size = some o → (∀ c u, s.heap.get? c = some u → h1.get? c = some u) → Q (.ref (s.heap.objs.size + 1)) { s with heap := h1 }) :
    wpAny (model prog w) A (call (.type "enumerate") [v]) Q Er s := by
  have sz : (s.heap.push o).objs.size = s.heap.objs.size + 1 := Heap.size_push _ _
  have e1 : ((s.heap.push o).push (enumO s.heap.objs.size)).get? (s.heap.objs.size + 1) = some (enumO s.heap.objs.size) := sz ▸ Heap.get?_push_size (s.heap.push o) (o := enumO s.heap.objs.size) rfl
  refine callType_new F.called_enumerate (by decide) (F.typeCall_enumerate_1 _) (F.newCall_enumerate_1 _) (fun obj => F.args_object_init_2 obj _) F.entry_enumerate_new (enum_new b) ⟨hG, ?_⟩
  rw [sz]
  exact ⟨⟨_, e1, rfl⟩, q _ e1 (Heap.get?_push_of_some _ (Heap.get?_push_size _ b.free)) fun c u z => Heap.get?_push_of_some _ (Heap.get?_push_of_some _ z)⟩
/-- the tuple at a, each item in a new pair -/
def IteT (K : PySem.W.Frag) (a : Addr) (n : Nat) : It where
  go := fun i H => i < n ∧ ∃ xs : List V, SqT K H a xs ∧ xs.length = n
  yld := fun i H v H' => ∃ T x, (v = .ref T ∧ H T = none ∧ H' = upd H T (.tup [.int (i : Nat), x])) ∧ ∀ xs, SqT K H a xs → xs[i]? = some x
  stop := fun i H => i = n ∧ ∃ xs : List V, SqT K H a xs ∧ xs.length = n
theorem walk_enumT {K : PySem.W.Frag} {a : Addr} {xs : List V} : Walk (IteT K a xs.length) xs.length (fun H => SqT K H a xs) (YPair (fun i => some (.int (i : Nat))) (fun i => xs[i]?)) where
  goes := fun i H hi q => ⟨hi, xs, q, rfl⟩
  stops := fun H q => ⟨rfl, xs, q, rfl⟩
  yields := fun i H v H' hi q ⟨T, x, ⟨h1, h2, h3⟩, h4⟩ => ⟨T, _, x, h1, h2, h3, rfl, h4 xs q⟩
/-- where they lie: e walks it walks the tuple -/
structure EnT (h : Heap) (a e it : Addr) (i : Nat) : Prop where
  en : ∃ old, IsEnum h e it ((i : Nat) : Int) old
  ti : h.IsTupleIter it a i
  ne : e ≠ it
theorem EnT.apart {h : Heap} {a e it : Addr} {i : Nat} {vs : Array Value} (E : EnT h a e it i) (p : h.IsTuple a vs) : a ≠ it ∧ e ≠ a := by
  obtain ⟨o, ho, co, _⟩ := p
  obtain ⟨_, he⟩ := E.en
  obtain ⟨u, hu, cu, _⟩ := E.ti
  constructor
  · rintro rfl
    obtain rfl : u = o := Option.some.inj (hu.symm.trans ho)
    exact absurd (cu.symm.trans co) (by decide)
  · rintro rfl
    obtain rfl := Option.some.inj (he.symm.trans ho)
    exact absurd (show Value.type "enumerate" = Value.type "tuple" from co) (by decide)
theorem EnT.runs {P : Program} {w : World} {A : Around} {elts : List Expr} {k : Nat} {pos : Pos} {h : Heap} {a e it : Addr} {i : Nat} {vs : Array Value} (hA : A.handled = none) (E : EnT h a e it i) (p : h.IsTuple a vs) :
    GoesN P w A (.Tuple elts k pos) e [e, it, a] [e, it] vs.size (fun j h₀ v h₁ => ∃ T vals, v = .ref T ∧ h₀.objs.size ≤ T ∧ (∃ t x, vs[j]? = some x ∧ vals = #[.int j t, x]) ∧ h₁.IsTuple T vals) (fun j h => (∃ old, IsEnum h e it j old) ∧ h.IsTupleIter it a j ∧ h.IsTuple a vs) :=
  let ⟨h1, h2⟩ := E.apart p
  .ofWalksT (WalksT.enumerateD (Draws.tuple (A := A.in1) hA it a h1 vs) e E.ne (by simp [E.ne, h2]) (by simp))
theorem turn_enumT {P : Program} {w : World} {K : PySem.W.Frag} {elts : List Expr} {k : Nat} {pos : Pos} {n : Nat} (a e it : Addr) : Turn P w K (.Tuple elts k pos) (IteT K a n) [e, it] e (fun i h => EnT h a e it i) where
  mem := List.mem_cons_self
  obj := fun i h E b hb => by
    rcases List.mem_cons.mp hb with rfl | hb
    · obtain ⟨old, he⟩ := E.en
      exact ⟨_, he, nofun⟩
    · obtain rfl := List.mem_singleton.mp hb
      obtain ⟨o, ho, _, hd⟩ := E.ti
      exact ⟨o, ho, fun v z => Data.noConfusion (hd.symm.trans z)⟩
  keep := fun i h h' E kp => ⟨E.en.imp fun old z => kp e (by simp) _ z, E.ti.at fun o z => kp it (by simp) o z, E.ne⟩
  item := by
    rintro X rfl rfl rfl hc i pins s σ H F I hf E ⟨hi, xs, hq, hl⟩
    obtain ⟨its, rv, p, _⟩ := I.tuple hq
    have hv := rv.length
    obtain ⟨x, hx⟩ : ∃ x, xs[i]? = some x := ⟨_, List.getElem?_eq_getElem (by omega)⟩
    obtain ⟨u, hu, ru⟩ := rv.get hx
    have old : ∀ b ∈ [e, it], b < s.heap.objs.size := fun b hb => by
      rcases List.mem_cons.mp hb with rfl | hb
      · exact Heap.lt_size E.en.choose_spec
      · obtain rfl := List.mem_singleton.mp hb
        exact Heap.lt_size E.ti.choose_spec.1
    refine (E.runs (vs := its.toArray) (I.ok.hd hc) p).goes i s _ F (by simp; omega) ⟨E.en, E.ti, p⟩ ?_
    rintro v h1 tk ⟨T, vals, rfl, hT, ⟨t, y, hy, rfl⟩, hn⟩ ⟨en, ti, _⟩ kp _
    obtain rfl : y = u := by
      rw [List.getElem?_toArray, hu] at hy
      exact (Option.some.inj hy).symm
    have two : (2 : Nat) ≤ sizeLine := by decide
    have I1 := I.turnedNew (t' := tk) (T := T) (ob := .tup [.int (i : Nat), x]) kp hf hT ⟨two, [.int i t, y], .cons ⟨_, rfl⟩ (.cons ru .nil), hn⟩
    refine ⟨.ref T, _, I1, rfl, ⟨T, x, ⟨rfl, I.hok.fresh hT, rfl⟩, fun ys z => by rw [I.tuple_inj z hq]; exact hx⟩, ⟨en, ti, E.ne⟩, fun b hb => ?_⟩
    rw [upd_ne (Nat.ne_of_lt (Nat.lt_of_lt_of_le (old b hb) hT))]
    exact (hf b hb).1
  done := by
    rintro X rfl rfl rfl hc i pins s σ H F I hf E ⟨rfl, xs, hq, hl⟩
    obtain ⟨its, rv, p, _⟩ := I.tuple hq
    have hv := rv.length
    have sz : its.toArray.size = i := by simp; omega
    obtain ⟨old, he⟩ := E.en
    have D := Draws.tuple (prog := X.prog) (w := X.w) (A := X.A.in1) (I.ok.hd hc) it a (E.apart (vs := its.toArray) p).1 its.toArray
    rw [sz] at D
    obtain ⟨f0, f1, f2, f3, f4, f5⟩ := hf it (by simp)
    exact wpAny_pyNext_enum_endD D he ⟨E.ti, p⟩ fun h1 eb => ⟨rfl, I.turned (t' := s.toks) (fun b o hb z => eb b o hb z) f0 f1 f3 f4 f5⟩
  self := fun A i s Q F E q => wpAny_pyIter_enum E.en.choose_spec q
def iEnumS (K : PySem.W.Frag) (ta : TA) : TI := fun σ H R => ta σ H fun vs H1 => ∃ a, vs = [.ref a] ∧ (((∃ xs, SqL K H1 a xs) ∧ R (Ite K a) H1) ∨ (∃ xs, SqT K H1 a xs ∧ R (IteT K a xs.length) H1))
theorem pi_enumS {X : Cx} {l : Expr} {tl : TA} {p q r : Pos} {elts : List Expr} {k : Nat} (hg : Gl X "enumerate") (hm : X.mg "enumerate" = none) (ha : PA X [l] tl) (hs : starEach [l] X.env = [(false, eval l X.env)] := by rfl) :
    PI X (.Tuple elts k r) (.Call (.Name "enumerate" p) [l] [] q) (iEnumS X.K tl) := by
  constructor
  intro pins s σ H R I h
  refine Call_ (ld_blt I hg hm boot_enumerate (PyProof.Rows.callWith_type1 (thn (ha.run q pins s σ H _ I h) ?_) hs rfl))
  rintro us s1 ⟨vs, H1, I1, r1, a, rfl, z⟩
  obtain ⟨u, rfl, ru⟩ : ∃ u, us = [u] ∧ RelV (.ref a) u := by
    cases r1 with
    | cons c d => cases d; exact ⟨_, rfl, c⟩
  obtain rfl : u = .ref a := ru
  have free : ∀ b ∈ [s1.heap.objs.size + 1, s1.heap.objs.size], FpOk X pins H1 b := fun b hb => by
    have le : s1.heap.objs.size ≤ b := by
      rcases List.mem_cons.mp hb with rfl | hb
      · exact Nat.le_succ _
      · exact Nat.le_of_eq (List.mem_singleton.mp hb).symm
    exact I1.fpOk le (I1.hok.fresh le)
  rcases z with ⟨⟨xs, hx⟩, z⟩ | ⟨xs, hx, z⟩
  · obtain ⟨its, _, pl, _⟩ := I1.list hx
    refine enum_call (begins_list a its.toArray) pl.isList fun h1 en li kp => wpAny_pyIter_enum en ?_
    exact ⟨_, _, _, _, H1, rfl, I1.kept (t' := s1.toks) kp, turn_enum a (s1.heap.objs.size + 1) s1.heap.objs.size, ⟨⟨.none, en⟩, ⟨_, li, rfl, rfl⟩, Nat.succ_ne_self _⟩, free, z⟩
  · obtain ⟨its, _, pl, _⟩ := I1.tuple hx
    refine enum_call (begins_tuple a its.toArray) pl fun h1 en li kp => wpAny_pyIter_enum en ?_
    exact ⟨_, _, _, _, H1, rfl, I1.kept (t' := s1.toks) kp, turn_enumT a (s1.heap.objs.size + 1) s1.heap.objs.size, ⟨⟨.none, en⟩, ⟨_, li, rfl, rfl⟩, Nat.succ_ne_self _⟩, free, z⟩
section
variable {X : Cx} {B : Base} {e a b o : Expr} {es : List Expr} {st : Stmt} {pos : Pos} {ta tb to : DE} {t tr : DA} {g : DG}
def dLoopE (ds : List D) (g : DG) (tb : DP) : DP := fun E δ => ∃ Pv : Nat → DS → Prop, Pv 0 δ ∧
  (∀ i d δ, ds[i]? = some d → Pv i δ → g (.dat (.tup [.int (i : Nat), d])) δ fun δ2 => tb { E with nx := Pv (i + 1), ct := Pv (i + 1), bk := E.nx } δ2) ∧ ∀ δ, Pv ds.length δ → E.nx δ
def dForE (t : DA) (g : DG) (tb : DP) : DP := fun E δ => t δ fun ws δ1 => ∃ w, ws = [w] ∧ toD w δ1 fun d δ2 => ∃ ds, (d = .lst ds ∨ d = .tup ds) ∧ dLoopE ds g tb E δ2
theorem v_forE {tb : DP} (hs : PS X st (tFor (iEnumS X.K (upA B t)) (upG B g) (upS B tb))) : PS X st (upS B (dForE t g tb)) := ps_imp hs fun E σ H ⟨O, δ, Dd, R, h, L⟩ => by
  refine ⟨O, δ, _, R, h, fun ws δ1 O1 vs H1 ⟨w, ew, q⟩ e1 R1 r1 => ?_⟩
  subst ew
  obtain ⟨v, rfl, rz⟩ := r1.one
  obtain ⟨d, δ2, ⟨ds, hds, Pv, h0, hs, hd⟩, R2, e2, hv⟩ := toD_ok R1 rz q
  have e12 := e1.trans e2
  -- the object that is walked
  obtain ⟨a, xs, b, rfl, hb, l⟩ : ∃ a xs b, v = .ref a ∧ SqB X.K H1 a xs b ∧ DvAll (Fz O1 δ2.own H1) xs ds ∧ Fz O1 δ2.own H1 a (if b then .lst xs else .tup xs) := by
    rcases hds with rfl | rfl
    · cases hv with
      | lst e l => exact ⟨_, _, true, rfl, SqL.of e.1, l, e⟩
    · cases hv with
      | tup e l => exact ⟨_, _, false, rfl, SqT.of e.1, l, e⟩
  have keep : ∀ {O' S' H'}, Ext O1 δ2.own H1 O' S' H' → SqB X.K H' a xs b := fun {O' S' H'} ex => by
    have z := ex.fz _ _ l.2
    cases b with
    | true => exact SqL.of z.1
    | false => exact SqT.of z.1
  have body : ∃ Pw : Nat → L2.St → Hp → Prop, Pw 0 σ H1 ∧ (∀ i σ H, i ≤ xs.length → Pw i σ H → SqB X.K H a xs b) ∧
      (∀ i v σ H H', i < xs.length → Pw i σ H → YPair (fun i => some (.int (i : Nat))) (fun i => xs[i]?) i H v H' → upG B g v σ H' fun σ2 H2 => upS B tb { E with nx := Pw (i + 1), ct := Pw (i + 1), bk := E.nx } σ2 H2) ∧ ∀ σ H, Pw xs.length σ H → E.nx σ H := by
    refine ⟨fun i σ' H' => ∃ (O' : List Addr) (δ' : DS), Ext O1 δ2.own H1 O' δ'.own H' ∧ Rel B O' σ' H' δ' ∧ Pv i δ', ⟨O1, δ2, .refl, R2, h0⟩, fun i σ' H' _ ⟨O', δ', ex, _, _⟩ => keep ex, ?_, ?_⟩
    · rintro i _ σ' H' _ hi ⟨O', δ', ex, R', hp⟩ ⟨T, _, x, rfl, hT, rfl, ⟨⟩, hx⟩
      have hi' : i < ds.length := by rw [← l.1.len]; exact hi
      obtain ⟨dy, edy⟩ : ∃ dy, ds[i]? = some dy := ⟨_, List.getElem?_eq_getElem hi'⟩
      have hx : xs[i]? = some x := hx
      obtain ⟨y, hy, hyd⟩ := l.1.get (i := i) edy
      rw [hx] at hy
      cases hy
      obtain ⟨k1, k2, k3⟩ := R'.dat (xs := [.int (i : Nat), x]) (ds := [.int (i : Nat), dy]) hT (.cons (.int _) (.cons (hyd.k ex.fz) .nil))
      refine ⟨O', δ', .dat (.tup [.int (i : Nat), dy]), _, k2, k3, hs i dy δ' edy hp, fun δ3 O3 σ3 H3 q3 e3 R3 => ⟨O3, δ3, _, R3, q3, ?_, ?_, ?_, ?_⟩⟩
      · exact fun δ4 O4 σ4 H4 q4 e4 R4 => ⟨O4, δ4, ((ex.trans k1).trans e3).trans e4, R4, q4⟩
      · exact fun w4 δ4 O4 σ4 v4 H4 q4 e4 R4 r4 => L.rt w4 δ4 O4 σ4 v4 H4 q4 ((e12.trans ((ex.trans k1).trans e3)).trans e4) R4 r4
      · exact fun δ4 O4 σ4 H4 q4 e4 R4 => L.nx δ4 O4 σ4 H4 q4 ((e12.trans ((ex.trans k1).trans e3)).trans e4) R4
      · exact fun δ4 O4 σ4 H4 q4 e4 R4 => ⟨O4, δ4, ((ex.trans k1).trans e3).trans e4, R4, q4⟩
    · rintro σ' H' ⟨O', δ', ex, R', hp⟩
      rw [l.1.len] at hp
      exact L.nx δ' O' σ' H' (hd δ' hp) (e12.trans ex) R'
  obtain ⟨Pw, w0, w1, w2, w3⟩ := body
  refine ⟨a, rfl, ?_⟩
  cases b with
  | true => exact .inl ⟨⟨xs, hb⟩, for_it walk_enum Pw w0 w1 w2 w3⟩
  | false => exact .inr ⟨xs, hb, for_it walk_enumT Pw w0 w1 w2 w3⟩

/-! ### *e in a display -/
def dStar (ta : DE) (t : DA) : DA := fun δ Q => ta δ fun w δ1 => ∃ ds, PkS δ1.own w ds ∧ t δ1 fun ws δ2 => Q (ds.map W.dat ++ ws) δ2
theorem WRs.app {O : List Addr} {S : Own} {H : Hp} : ∀ {vs us : List V} {ws xs : List W}, WRs O S H vs ws → WRs O S H us xs → WRs O S H (vs ++ us) (ws ++ xs)
  | [], _, _, _, h, k => by cases h; exact k
  | _ :: _, _, _, _, h, k => by
    cases h with
    | cons a b => exact .cons a (b.app k)
theorem va_star {p : Pos} (ha : PE X e (upE B ta)) (hr : PA X es (upA B t)) (hs : starEach (.Starred e p :: es) X.env = (true, eval e X.env) :: starEach es X.env := by rfl) : PA X (.Starred e p :: es) (upA B (dStar ta t)) :=
  pa_imp (StX.pa_star ha hr hs) fun σ H Q ⟨O, δ, Qd, R, h, L⟩ => ⟨O, δ, _, R, h, fun w δ1 O1 v H1 ⟨ds, p, q⟩ e1 R1 r1 => by
    obtain ⟨a, xs, rfl, hx, l⟩ : ∃ a xs, v = .ref a ∧ (SqT X.K H1 a xs ∨ SqL X.K H1 a xs) ∧ DvAll (Fz O1 δ1.own H1) xs ds := by
      rcases p with p | p
      · obtain ⟨a, xs, rfl, e, l⟩ := pk_vw R1.st r1 p
        exact ⟨a, xs, rfl, .inr (SqL.of e), l⟩
      · obtain ⟨a, xs, rfl, e, l⟩ := pk_vw R1.st r1 p
        exact ⟨a, xs, rfl, .inl (SqT.of e), l⟩
    exact ⟨a, xs, rfl, hx, O1, δ1, _, R1, q, fun ws δ2 O2 vs H2 q2 e2 R2 r2 => L _ δ2 O2 _ H2 q2 (e1.trans e2) R2 ((WRs.dats (l.k e2.fz)).app r2)⟩⟩
end
end Va

set_option maxRecDepth 100000
set_option maxHeartbeats 2000000
namespace Va
open PySem PySem.Spec PyProof.Rows L2 Fd

/-! ### rules, some of their tuples lists -/
def sq : Bool → List D → D
  | true, ds => .lst ds
  | false, ds => .tup ds
theorem sq_pks {S : Own} {b : Bool} {ds : List D} : PkS S (.dat (sq b ds)) ds := by
  cases b
  · exact .inr rfl
  · exact .inl rfl
theorem sq_or (b : Bool) (ds : List D) : sq b ds = .lst ds ∨ sq b ds = .tup ds := by
  cases b
  · exact .inr rfl
  · exact .inl rfl
def Itm.vl (b : Bool) : Itm → D
  | .put xs => .tup [.str "put", sq b (xs.map D.int)]
  | .plus k => .tup [.str "plus", .int k]
  | .own j k => .tup [.str "own", .int j, .int k]
def Ru.vl (b c : Bool) (r : Ru) : D := .tup [.int r.stand, Wd.v r.word, sq c (r.items.map (Itm.vl b)), nextV r.next]
theorem Itm.vl_f : Itm.vl false = Itm.v := by
  funext i
  cases i <;> rfl
theorem Ru.vl_f : Ru.vl false false = Ru.v := by
  funext r
  unfold Ru.vl
  rw [Itm.vl_f]
  rfl
/-! ### what == answers on, inside -/
theorem all_sh {n : Nat} : ∀ {ds : List D}, pures ds = true → PyData.canLayAll0 (pys ds) = true → PyData.depthAll (pys ds) ≤ n → ∀ d ∈ ds, Sh n d
  | [], _, _, _ => fun d h => nomatch h
  | d :: ds, h1, h2, h3 => by
    rw [pures, Bool.and_eq_true] at h1
    rw [pys, PyData.canLayAll0, Bool.and_eq_true] at h2
    rw [pys, PyData.depthAll] at h3
    intro e he
    rcases List.mem_cons.mp he with rfl | he
    · exact ⟨h1.1, h2.1, Nat.le_trans (Nat.le_max_left _ _) h3⟩
    · exact all_sh h1.2 h2.2 (Nat.le_trans (Nat.le_max_right _ _) h3) e he
theorem Sh.tm {n : Nat} {ds : List D} (h : Sh n (.tup ds)) : ∀ d ∈ ds, Sh n d := by
  obtain ⟨h1, h2, h3⟩ := h
  rw [pure'] at h1
  rw [py, PyData.canLay0] at h2
  rw [py, PyData.depth] at h3
  exact all_sh h1 h2 (by omega)
theorem Sh.lm {n : Nat} {ds : List D} (h : Sh n (.lst ds)) : ∀ d ∈ ds, Sh n d := by
  obtain ⟨h1, h2, h3⟩ := h
  rw [pure'] at h1
  rw [py, PyData.canLay0] at h2
  rw [py, PyData.depth] at h3
  exact all_sh h1 h2 (by omega)
theorem Sh.sq {n : Nat} {b : Bool} {ds : List D} (h : ∀ d ∈ ds, Sh n d) : Sh (n + 1) (sq b ds) := by
  cases b
  · exact .tup h
  · exact .lst h
theorem Sh.noCon {n : Nat} {d : D} (h : Sh n d) : noCon d = true := by
  cases d with
  | con _ => have z := h.p; rw [pure'] at z; cases z
  | ins _ _ _ => have z := h.p; rw [pure'] at z; cases z
  | _ => rfl
theorem sh_itL (b : Bool) (i : Itm) : Sh 2 (Itm.vl b i) := by
  cases i with
  | put xs =>
    refine .tup fun d h => ?_
    rcases List.mem_cons.mp h with rfl | h
    · exact (Sh.str (by decide +kernel)).le (by decide)
    · rw [List.mem_singleton.mp h]
      exact Sh.sq (sh_ints xs)
  | plus k => exact sh_it (.plus k)
  | own j k => exact sh_it (.own j k)
theorem sh_ruL (b c : Bool) (u : Ru) : Sh 4 (Ru.vl b c u) := by
  refine .tup fun d h => ?_
  rcases List.mem_cons.mp h with rfl | h
  · exact (Sh.int _).le (by decide)
  rcases List.mem_cons.mp h with rfl | h
  · cases u.word with
    | sign s => exact (Sh.int s).le (by decide)
    | other => exact (Sh.str (by decide +kernel)).le (by decide)
    | fin => exact (Sh.str (by decide +kernel)).le (by decide)
  rcases List.mem_cons.mp h with rfl | h
  · refine Sh.sq fun d h => ?_
    obtain ⟨i, _, rfl⟩ := List.mem_map.mp h
    exact sh_itL b i
  rw [List.mem_singleton.mp h]
  cases u.next with
  | none => exact Sh.non.le (by decide)
  | some n => exact (Sh.int n).le (by decide)
theorem sh_rusL (h b c : Bool) (us : List Ru) : Sh 5 (sq h (us.map (Ru.vl b c))) := Sh.sq fun d h => by
  obtain ⟨u, _, rfl⟩ := List.mem_map.mp h
  exact sh_ruL b c u
/-! ### the judges -/
def sgD (d : D) : Bool := dSign (py d)
def rowD (d : D) : Bool := dRow (py d)
def lenD : D → Nat
  | .lst ds => ds.length
  | .tup ds => ds.length
  | _ => 0
def itD : D → Bool
  | .tup [a, r] => if eqD a (.str "put") then rowD r && decide (lenD r ≤ 99) else if eqD a (.str "plus") then sgD r else false
  | .tup [a, r, s] => eqD a (.str "own") && (sgD r && sgD s)
  | _ => false
def itsD : D → Bool
  | .lst ds => decide (ds.length ≤ 99) && ds.all itD
  | .tup ds => decide (ds.length ≤ 99) && ds.all itD
  | _ => false
def nonD : D → Bool | .non => true | _ => false
def ruD : D → Bool
  | .tup [st, wd, its, af] => (sgD st && itsD its) && (if eqD wd (.str "end") then nonD af else (eqD wd (.str "other") || sgD wd) && sgD af)
  | _ => false
def sdJ (f : D → Bool) : SpD := fun ws S Q _ => ∃ d, ws = [.dat d] ∧ Sh 60 d ∧ Q (.dat (.bl (f d))) S
theorem sgD_int {i : Int} (h : 0 ≤ i ∧ i < 100) : sgD (.int i) = true := by
  unfold sgD
  rw [py]
  show (decide (0 ≤ i) && decide (i < 100)) = true
  rw [decide_eq_true h.1, decide_eq_true h.2]
  rfl
theorem rowD_sq {b : Bool} {xs : List Int} (h : Sgn xs) : rowD (sq b (xs.map D.int)) = true := by
  unfold rowD
  cases b
  · show dRow (py (.tup _)) = true
    rw [py, pys_ints]
    exact dRow_tup h
  · show dRow (py (.lst _)) = true
    rw [py, pys_ints]
    exact dRow_lst h
theorem lenD_sq {b : Bool} {ds : List D} : lenD (sq b ds) = ds.length := by cases b <;> rfl
theorem itD_ok {b : Bool} {i : Itm} (h : ItOk i) : itD (Itm.vl b i) = true := by
  cases i with
  | put xs =>
    show (if eqD (.str "put") (.str "put") then rowD (sq b (xs.map D.int)) && decide (lenD (sq b (xs.map D.int)) ≤ 99) else if eqD (.str "put") (.str "plus") then sgD (sq b (xs.map D.int)) else false) = true
    rw [if_pos (by decide +kernel), rowD_sq h.1, lenD_sq, List.length_map, decide_eq_true h.2]
    rfl
  | plus k =>
    show (if eqD (.str "plus") (.str "put") then rowD (.int k) && decide (lenD (.int k) ≤ 99) else if eqD (.str "plus") (.str "plus") then sgD (.int k) else false) = true
    rw [if_neg (by decide +kernel), if_pos (by decide +kernel), sgD_int h]
  | own j k =>
    show (eqD (.str "own") (.str "own") && (sgD (.int j) && sgD (.int k))) = true
    rw [sgD_int h.1, sgD_int h.2]
    decide +kernel
theorem itsD_ok {b c : Bool} {is : List Itm} (h : ∀ i ∈ is, ItOk i) (l : is.length ≤ 99) : itsD (sq c (is.map (Itm.vl b))) = true := by
  have z : (decide ((is.map (Itm.vl b)).length ≤ 99) && (is.map (Itm.vl b)).all itD) = true := by
    rw [List.length_map, decide_eq_true l, List.all_map, Bool.true_and, List.all_eq_true]
    exact fun i hi => itD_ok (h i hi)
  cases c
  · exact z
  · exact z
theorem ruD_ok {b c : Bool} {u : Ru} (h : RuOk u) : ruD (Ru.vl b c u) = true := by
  obtain ⟨s, wd, its, nx⟩ := u
  show ((sgD (.int s) && itsD (sq c (its.map (Itm.vl b)))) && (if eqD (Wd.v wd) (.str "end") then nonD (nextV nx) else (eqD (Wd.v wd) (.str "other") || sgD (Wd.v wd)) && sgD (nextV nx))) = true
  rw [sgD_int h.st, itsD_ok h.its h.few]
  have z := h.nx
  have y := h.wd
  cases wd with
  | fin =>
    cases nx with
    | none =>
      show (true && true && (if eqD (.str "end") (.str "end") then true else (eqD (.str "end") (.str "other") || sgD (.str "end")) && sgD .non)) = true
      rw [if_pos (by decide +kernel)]
      rfl
    | some n => exact z.elim
  | other =>
    cases nx with
    | none => exact z.elim
    | some n =>
      show (true && true && (if eqD (.str "other") (.str "end") then false else (eqD (.str "other") (.str "other") || sgD (.str "other")) && sgD (.int n))) = true
      rw [if_neg (by decide +kernel), sgD_int z, show eqD (.str "other") (.str "other") = true by decide +kernel]
      rfl
  | sign x =>
    cases nx with
    | none => exact z.elim
    | some n =>
      show (true && true && (if eqD (.int x) (.str "end") then false else (eqD (.int x) (.str "other") || sgD (.int x)) && sgD (.int n))) = true
      have e : eqD (.int x) (.str "end") = false := by
        unfold eqD
        rw [py, py]
        simp [PyData.eqv]
      rw [if_neg (by rw [e]; decide), sgD_int z, sgD_int y]
      cases eqD (.int x) (.str "other") <;> rfl
/-! ### how long they are when they are written -/
theorem FnL {k m : Nat} {ds : List PyData} (h : ∀ d ∈ ds, d.showable = true ∧ d.depth ≤ k) (l : piled (PyData.shownAll ds) ≤ m) : Fn (.list ds) (m + 3) (k + 1) := by
  refine ⟨?_, ?_, ?_⟩
  · rw [PyData.showable]
    exact showableAll_of ds fun d hd => (h d hd).1
  · rw [PyData.shown]
    have z := textFrom_le (PyData.shownAll ds) 0 "["
    have e : (listText (PyData.shownAll ds)).length = (textFrom 0 "[" (PyData.shownAll ds)).length + 1 := by
      show (textFrom 0 "[" _ ++ "]").length = _
      rw [strLen_append]
      rfl
    have e1 : ("[" : Str).length = 1 := rfl
    omega
  · rw [PyData.depth]
    exact Nat.succ_le_succ (depthAll_of ds fun d hd => (h d hd).2)
theorem FnQ {b : Bool} {k m : Nat} {ds : List D} (h : ∀ d ∈ ds, (py d).showable = true ∧ (py d).depth ≤ k) (l : piled (PyData.shownAll (pys ds)) ≤ m) : Fn (py (sq b ds)) (m + 3) (k + 1) := by
  have h' : ∀ d ∈ pys ds, d.showable = true ∧ d.depth ≤ k := by
    have e : ∀ l : List D, pys l = l.map py := fun l => by
      induction l with
      | nil => rw [pys]; rfl
      | cons a l ih => rw [pys, ih]; rfl
    rw [e]
    intro d hd
    obtain ⟨x, hx, rfl⟩ := List.mem_map.mp hd
    exact h x hx
  cases b
  · show Fn (py (.tup ds)) _ _
    rw [py]
    exact FnS h' l
  · show Fn (py (.lst ds)) _ _
    rw [py]
    exact FnL h' l
end Va

set_option maxRecDepth 100000
set_option maxHeartbeats 2000000
namespace Va
open PySem PySem.Spec PyProof.Rows L2 Fd
theorem rowD_seq {r : D} (h : rowD r = true) : ∃ b es, r = sq b es := by
  cases r with
  | lst es => exact ⟨true, es, rfl⟩
  | tup es => exact ⟨false, es, rfl⟩
  | _ => exact Bool.noConfusion h
theorem tf (b : Bool) : b = true ∨ b = false := by cases b <;> simp
theorem le99 (n : Nat) : decide ((n : Int) ≤ 99) = decide (n ≤ 99) := by
  by_cases h : n ≤ 99
  · rw [decide_eq_true h, decide_eq_true (by omega)]
  · rw [decide_eq_false h, decide_eq_false (by omega)]
theorem shPut : shD (.str "put") = true := (Sh.str (by decide +kernel) : Sh 0 (.str "put")).sh (by decide)
theorem shPlus : shD (.str "plus") = true := (Sh.str (by decide +kernel) : Sh 0 (.str "plus")).sh (by decide)
theorem shOwn : shD (.str "own") = true := (Sh.str (by decide +kernel) : Sh 0 (.str "own")).sh (by decide)
theorem shEnd : shD (.str "end") = true := (Sh.str (by decide +kernel) : Sh 0 (.str "end")).sh (by decide)
theorem shOther : shD (.str "other") = true := (Sh.str (by decide +kernel) : Sh 0 (.str "other")).sh (by decide)
theorem eqS_ne {i j : Int} (h : i ≠ j) : eqS (.int i) (.int j) = false := by
  simp [eqS, h]
theorem nb_f {b : Bool} (h : b = true) : (!b) = false := by rw [h]; rfl
theorem nb_t {b : Bool} (h : b = false) : (!b) = true := by rw [h]; rfl
theorem seq_or {d : D} (h : noCon d = true) : (∃ b ds, d = sq b ds) ∨ ((isiD d "list" || isiD d "tuple") = false ∧ itsD d = false) := by
  cases d with
  | con _ => exact Bool.noConfusion h
  | ins _ _ _ => exact Bool.noConfusion h
  | lst ds => exact .inl ⟨true, ds, rfl⟩
  | tup ds => exact .inl ⟨false, ds, rfl⟩
  | _ => exact .inr ⟨rfl, rfl⟩
theorem isi_sq {b : Bool} {ds : List D} : (isiD (sq b ds) "list" || isiD (sq b ds) "tuple") = true := by cases b <;> rfl
theorem noCon_sq {b : Bool} {ds : List D} : noCon (sq b ds) = true := by cases b <;> rfl
theorem itsD_sq {b : Bool} {ds : List D} : itsD (sq b ds) = (decide (ds.length ≤ 99) && ds.all itD) := by cases b <;> rfl
theorem Sh.qm {n : Nat} {b : Bool} {ds : List D} (h : Sh n (Va.sq b ds)) : ∀ d ∈ ds, Sh n d := by
  cases b
  · exact Sh.tm h
  · exact Sh.lm h
theorem all_step {f : D → Bool} {ds : List D} {i : Nat} {d : D} (h : (ds.take i).all f = true) (e : ds[i]? = some d) (hd : f d = true) : (ds.take (i + 1)).all f = true := by
  rw [List.take_add_one, e, List.all_append, h]
  show (true && (f d && true)) = true
  rw [hd]
  rfl
theorem all_stop {f : D → Bool} {ds : List D} {i : Nat} {d : D} (e : ds[i]? = some d) (hd : f d = false) : ds.all f = false := by
  cases c : ds.all f with
  | false => rfl
  | true =>
    rw [List.all_eq_true.mp c d (List.mem_of_getElem? e)] at hd
    cases hd
theorem nonW_d {d : D} (h : noCon d = true) : nonW (.dat d) = some (nonD d) := by
  cases d with
  | con _ => exact Bool.noConfusion h
  | ins _ _ _ => exact Bool.noConfusion h
  | _ => rfl
theorem toDs_dats {δ : DS} {Q : List D → DS → Prop} : ∀ {ds : List D}, Q ds δ → toDs (ds.map W.dat ++ []) δ Q := by
  have z : ∀ (ds : List D) (Q : List D → DS → Prop), Q ds δ → toDs (ds.map W.dat ++ []) δ Q := by
    intro ds
    induction ds with
    | nil => exact fun Q h => h
    | cons d ds ih => exact fun Q h => ih (fun es δ2 => Q (d :: es) δ2) h
  exact fun {ds} h => z ds Q h
/-- a list of ints that this body owns, at k -/
structure Rk (S S1 : Own) (k : Nat) (l : List Int) : Prop where
  g : Gp S S1
  h : S.length ≤ k
  e : S1[k]? = some (some (.lst (l.map D.int)))
theorem Rk.app {S S1 : Own} {k : Nat} {l : List Int} (r : Rk S S1 k l) (i : Int) : Rk S (S1.set k (some (.lst (l.map D.int ++ [D.int i])))) k (l ++ [i]) := ⟨r.g.set r.h _, r.h, by rw [set_get r.e, intsV_snoc]⟩
theorem Rk.ext {S S1 : Own} {k : Nat} {l : List Int} (r : Rk S S1 k l) (m : List Int) : Rk S (S1.set k (some (.lst (l.map D.int ++ m.map D.int)))) k (l ++ m) := ⟨r.g.set r.h _, r.h, by rw [set_get r.e, List.map_append]⟩
theorem Rk.push {S S1 : Own} {k : Nat} {l : List Int} (r : Rk S S1 k l) (x : Option Ob) : Rk S (S1 ++ [x]) k l := ⟨r.g.push _, r.h, get_push r.e⟩
theorem Rk.cast {S S1 : Own} {k : Nat} {l l' : List Int} (h : Rk S S1 k l) (e : l = l') : Rk S S1 k l' := e ▸ h
def sdItemS : SpD := fun ws S Q _ => ∃ (b : Bool) (i : Itm), ws = [.dat (Itm.vl b i)] ∧ ItOk i ∧ Q (.own S.length) (S ++ [some (.lst ((itI i).map D.int))])
def sdWordS : SpD := fun ws S Q _ => ∃ (w : Wd), ws = [.dat (Wd.v w)] ∧ Q (.own S.length) (S ++ [some (.lst ((wdI w).map D.int))])
def sdRuleS : SpD := fun ws S Q _ => ∃ (b c : Bool) (r : Ru), ws = [.dat (Ru.vl b c r)] ∧ RuOk r ∧ Q (.own S.length) (S ++ [some (.lst ((ruI r).map D.int))])
def sdBodyFor : SpD := fun ws S Q _ => ∃ (s : Int) (h b c : Bool) (rs : List Ru), ws = [.dat (.int s), .dat (sq h (rs.map (Ru.vl b c)))] ∧ (0 ≤ s ∧ s < 100) ∧ RusOk rs ∧ rs.length ≤ 1000 ∧ Q (.dat (iv (bodyI s rs))) S
section
variable {X : Cx} {B : Base} {a : Expr} {pos : Pos} {ua : DE}
def dNegV (ta : DE) : DE := fun δ Q => ta δ fun w δ1 => ∃ i, w = .dat (.int i) ∧ Q (.dat (.int (-i))) δ1
theorem v_neg (ha : PE X a (upE B ua)) : PE X (.UnaryOp .USub a pos) (upE B (dNegV ua)) := pe_imp (pe_un un_neg ha) fun σ H Q ⟨O, δ, Qd, R, h, L⟩ =>
  ⟨O, δ, _, R, h, fun w δ1 O1 v H1 ⟨i, ew, q⟩ e1 R1 r1 => by
    subst ew
    cases r1
    exact ⟨i, rfl, L _ δ1 O1 _ H1 q e1 R1 (.int _)⟩⟩
end
end Va

set_option maxRecDepth 100000
set_option maxHeartbeats 2000000
namespace Va
open PySem PySem.Spec PyProof.Rows L2 Fd
theorem Fn.ivL {b : Bool} {xs : List Int} (h : Sgn xs) : Fn (py (sq b (xs.map D.int))) (xs.length * 48 + 3) 1 := by
  have z := all_piled (n := 46) (k := 0) (ds := xs.map PyData.int) (Fn.ints (Sgn.small h))
  rw [List.length_map] at z
  refine FnQ (fun d hd => ?_) ?_
  · obtain ⟨i, hi, rfl⟩ := List.mem_map.mp hd
    rw [py]
    have y := Fn.sgn (h i hi)
    exact ⟨y.show', y.dep⟩
  · rw [pys_ints]
    exact z
theorem fn_itL {b : Bool} {i : Itm} (h : ItOk i) : Fn (py (Itm.vl b i)) ((itI i).length * 48) 2 := by
  cases i with
  | put xs =>
    have a := Fn.str (x := "put") (n := 6) (by decide +kernel)
    have b' : Fn (py (sq b (xs.map D.int))) (xs.length * 48 + 3) 1 := Fn.ivL h.1
    show Fn (py (.tup [.str "put", sq b (xs.map D.int)])) _ _
    rw [py, pys, pys, pys, py]
    refine (FnS (ds := [.str "put", py (sq b (xs.map D.int))]) (k := 1) (m := 6 + 2 + (3 + xs.length * 48 + 2)) (fun d hd => ?_) ?_).le ?_ (Nat.le_refl _)
    · rcases List.mem_cons.mp hd with rfl | hd
      · exact ⟨a.show', Nat.le_trans a.dep (by decide)⟩
      · rw [List.mem_singleton.mp hd]
        exact ⟨b'.show', b'.dep⟩
    · rw [PyData.shownAll, PyData.shownAll, PyData.shownAll, piled_cons, piled_cons, piled_nil]
      have := a.len
      have := b'.len
      omega
    · simp only [itI, List.length_cons]
      omega
  | plus k =>
    have z := fn_it (i := .plus k) h
    rw [← py_it] at z
    exact z
  | own j k =>
    have z := fn_it (i := .own j k) h
    rw [← py_it] at z
    exact z
theorem piled_itsL {b : Bool} : ∀ {is : List Itm}, (∀ i ∈ is, ItOk i) → piled (PyData.shownAll (pys (is.map (Itm.vl b)))) ≤ (itsI is).length * 50
  | [], _ => by rw [List.map_nil, pys, PyData.shownAll]; exact Nat.zero_le _
  | i :: is, h => by
    have a := (fn_itL (b := b) (h i List.mem_cons_self)).len
    have b' := piled_itsL (b := b) (is := is) fun j hj => h j (List.mem_cons_of_mem _ hj)
    rw [List.map_cons, pys, PyData.shownAll, piled_cons]
    show _ ≤ (itI i ++ itsI is).length * 50
    rw [List.length_append]
    have c : 1 ≤ (itI i).length := by cases i <;> simp [itI]
    omega
theorem fn_ruL {b c : Bool} {u : Ru} (h : RuOk u) : Fn (py (Ru.vl b c u)) ((ruI u).length * 70) 4 := by
  obtain ⟨s, wd, its, nx⟩ := u
  have a : Fn (.int s) 46 0 := Fn.sgn h.st
  have c' : Fn (py (sq c (its.map (Itm.vl b)))) ((itsI its).length * 50 + 3) 3 := FnQ (fun d hd => by
    obtain ⟨i, hi, rfl⟩ := List.mem_map.mp hd
    have z := fn_itL (b := b) (h.its i hi)
    exact ⟨z.show', z.dep⟩) (piled_itsL h.its)
  have b' : Fn wd.d 46 0 := by
    cases wd with
    | sign x => exact Fn.sgn h.wd
    | other => exact Fn.str (by decide +kernel)
    | fin => exact Fn.str (by decide +kernel)
  have e : Fn (nextD nx) 46 0 := by
    cases nx with
    | none => exact Fn.non.le (by decide) (by decide)
    | some n =>
      have z := h.nx
      cases wd with
      | fin => exact z.elim
      | sign x => exact Fn.sgn z
      | other => exact Fn.sgn z
  have hw : py (Wd.v wd) = wd.d := by cases wd <;> (show py _ = _) <;> rfl
  have hn : py (nextV nx) = nextD nx := by cases nx <;> (show py _ = _) <;> rfl
  show Fn (py (.tup [.int s, Wd.v wd, sq c (its.map (Itm.vl b)), nextV nx])) _ _
  rw [py, pys, pys, pys, pys, pys, py, hw, hn]
  refine (FnS (ds := [.int s, wd.d, py (sq c (its.map (Itm.vl b))), nextD nx]) (k := 3) (m := 46 + 2 + (46 + 2 + ((itsI its).length * 50 + 3 + 2 + (46 + 2)))) (fun d hd => ?_) ?_).le ?_ (Nat.le_refl _)
  · rcases List.mem_cons.mp hd with rfl | hd
    · exact ⟨a.show', Nat.le_trans a.dep (by decide)⟩
    rcases List.mem_cons.mp hd with rfl | hd
    · exact ⟨b'.show', Nat.le_trans b'.dep (by decide)⟩
    rcases List.mem_cons.mp hd with rfl | hd
    · exact ⟨c'.show', c'.dep⟩
    · rw [List.mem_singleton.mp hd]
      exact ⟨e.show', Nat.le_trans e.dep (by decide)⟩
  · rw [PyData.shownAll, PyData.shownAll, PyData.shownAll, PyData.shownAll, PyData.shownAll, piled_cons, piled_cons, piled_cons, piled_cons, piled_nil]
    have := a.len
    have := b'.len
    have := c'.len
    have := e.len
    omega
  · have w1 : 1 ≤ (wdI wd).length := by cases wd <;> simp [wdI]
    simp only [ruI, List.length_cons, List.length_append]
    omega
theorem piled_rusL {b c : Bool} : ∀ {us : List Ru}, RusOk us → piled (PyData.shownAll (pys (us.map (Ru.vl b c)))) ≤ (rusI us).length * 71
  | [], _ => by rw [List.map_nil, pys, PyData.shownAll]; exact Nat.zero_le _
  | u :: us, h => by
    have a := (fn_ruL (b := b) (c := c) (h u List.mem_cons_self)).len
    have b' := piled_rusL (b := b) (c := c) (us := us) fun j hj => h j (List.mem_cons_of_mem _ hj)
    rw [List.map_cons, pys, PyData.shownAll, piled_cons]
    show _ ≤ (ruI u ++ rusI us).length * 71
    rw [List.length_append]
    have c' : 2 ≤ (ruI u).length := by simp only [ruI, List.length_cons, List.length_append]; omega
    omega
theorem fn_rusL {h b c : Bool} {us : List Ru} (hu : RusOk us) : Fn (py (sq h (us.map (Ru.vl b c)))) ((rusI us).length * 71 + 3) 5 :=
  FnQ (fun d hd => by
    obtain ⟨u, hm, rfl⟩ := List.mem_map.mp hd
    have z := fn_ruL (b := b) (c := c) (hu u hm)
    exact ⟨z.show', z.dep⟩) (piled_rusL hu)
/-! ### what is written is read back -/
theorem itemOf_put {i : Itm} {t : List Int} (h : ItOk i) : itemOf (itI i ++ t) = some (i, t) := by
  cases i with
  | put xs =>
    show itemOf (0 :: (xs.length : Int) :: (xs ++ t)) = _
    show (if ((xs.length : Int)).toNat ≤ (xs ++ t).length then some (Itm.put ((xs ++ t).take ((xs.length : Int)).toNat), (xs ++ t).drop ((xs.length : Int)).toNat) else none) = _
    rw [Int.toNat_natCast, if_pos (by rw [List.length_append]; omega), List.take_left, List.drop_left]
  | plus k => rfl
  | own j k => rfl
theorem itemsOf_put : ∀ {is : List Itm} {t : List Int}, (∀ i ∈ is, ItOk i) → itemsOf is.length (itsI is ++ t) = some (is, t)
  | [], t, _ => rfl
  | i :: is, t, h => by
    show itemsOf (is.length + 1) ((itI i ++ itsI is) ++ t) = _
    rw [List.append_assoc, itemsOf_step (itemOf_put (h i List.mem_cons_self)), itemsOf_put fun j hj => h j (List.mem_cons_of_mem _ hj)]
    rfl
theorem wordOf_put {w : Wd} {t : List Int} : wordOf (wdI w ++ t) = some (w, t) := by cases w <;> rfl
theorem ruleOf_put {r : Ru} {t : List Int} (h : RuOk r) : ruleOf (ruI r ++ t) = some (r, t) := by
  obtain ⟨s, wd, its, nx⟩ := r
  have e : ruI ⟨s, wd, its, nx⟩ ++ t = s :: (wdI wd ++ ((its.length : Int) :: (itsI its ++ (nxI nx ++ t)))) := by simp [ruI]
  rw [e]
  show (wordOf _).bind (fun p => (itemsAt p.2).bind fun q => ruleEnd s p.1 q.1 q.2) = _
  rw [wordOf_put]
  show (itemsAt ((its.length : Int) :: (itsI its ++ (nxI nx ++ t)))).bind (fun q => ruleEnd s wd q.1 q.2) = _
  rw [show itemsAt ((its.length : Int) :: (itsI its ++ (nxI nx ++ t))) = itemsOf ((its.length : Int)).toNat (itsI its ++ (nxI nx ++ t)) from rfl, Int.toNat_natCast, itemsOf_put h.its]
  show ruleEnd s wd its (nxI nx ++ t) = _
  have z := h.nx
  cases wd with
  | fin =>
    cases nx with
    | none => rfl
    | some n => exact z.elim
  | other =>
    cases nx with
    | none => exact z.elim
    | some n => rfl
  | sign x =>
    cases nx with
    | none => exact z.elim
    | some n => rfl
theorem rulesOf_put : ∀ {n : Nat} {rs : List Ru}, RusOk rs → rs.length ≤ n → rulesOf n (rusI rs) = (rs, [])
  | 0, [], _, _ => rfl
  | n + 1, [], _, _ => rulesOf_stop rfl
  | 0, r :: rs, _, l => absurd l (by simp)
  | n + 1, r :: rs, h, l => by
    show rulesOf (n + 1) (ruI r ++ rusI rs) = _
    rw [rulesOf_step (ruleOf_put (h r List.mem_cons_self)), rulesOf_put (fun x hx => h x (List.mem_cons_of_mem _ hx)) (by simpa using l)]
theorem rusI_len1 : ∀ {rs : List Ru}, rs.length ≤ (rusI rs).length
  | [] => Nat.zero_le _
  | r :: rs => by
    show _ ≤ (ruI r ++ rusI rs).length
    have z := rusI_len1 (rs := rs)
    rw [List.length_append]
    simp only [ruI, List.length_cons]
    omega
theorem rulesOf_body {s : Int} {rs : List Ru} (h : RusOk rs) : rulesOf (bodyI s rs).length ((bodyI s rs).drop 1) = (rs, []) :=
  rulesOf_put h (Nat.le_trans rusI_len1 (Nat.le_succ _))
theorem bodyI_sgn {s : Int} {rs : List Ru} (h : RusOk rs) (hs : 0 ≤ s ∧ s < 100) : Sgn (bodyI s rs) := by
  refine Sgn.cons hs.1 hs.2 fun z hz => ?_
  obtain ⟨l, hl, hz⟩ := List.mem_flatten.mp hz
  obtain ⟨r, hr, rfl⟩ := List.mem_map.mp hl
  exact ruI_sgn (h r hr) z hz
end Va
namespace Va
theorem sub_own {k j : Nat} {ob : Ob} (h : j ≠ k) : sub k ob (some (.own j)) = some (.own j) := if_neg h
theorem sub_me {k : Nat} {ob : Ob} : sub k ob (some (.own k)) = some (.dat (obD ob)) := if_pos rfl
theorem sub_dat {k : Nat} {ob : Ob} {d : D} : sub k ob (some (.dat d)) = some (.dat d) := rfl
theorem sub_none {k : Nat} {ob : Ob} : sub k ob none = none := rfl
theorem map_take_snoc {α β : Type} {f : α → β} {l : List α} {i : Nat} {x : α} (e : l[i]? = some x) : (l.take i).map f ++ [f x] = (l.take (i + 1)).map f := by
  rw [List.take_add_one, e, List.map_append]
  rfl
theorem eqS_self (i : Int) : eqS (.int i) (.int i) = true := by simp [eqS]
theorem eqS_strs (x : PySem.Str) : eqS (.str x) (.str x) = true := by simp [eqS]
end Va

set_option maxRecDepth 100000
set_option maxHeartbeats 2000000
namespace Va
open PySem PySem.Spec PyProof.Rows L2 Fd

/-! ### try, with one clause that names its error -/
/-- what is wished where the body of a try raises: class, value, state -/
abbrev WD := Addr → D → DS → Prop
def xdV (v : V) : HO := .xd [(("value" : Str), v)]
theorem fz_xd {O : List Addr} {S : Own} {H : Hp} {a : Addr} {v : V} (st : StoreOk O H S) (e : H a = some (xdV v)) : Fz O S H a (xdV v) := ⟨e, fun ⟨k, ob, h1, h2⟩ => by
  obtain ⟨b, h3, h4⟩ := st.ob k ob h2
  obtain rfl : a = b := Option.some.inj (h1.symm.trans h3)
  exact h4.no e (fun _ z => nomatch z) (fun _ _ _ z => nomatch z) (fun _ z => nomatch z) (fun _ z => nomatch z)⟩
def LW (B : Base) (Wd : WD) (W : WX) : Prop := ∀ (C : Addr) (d : D) (δ' : DS) (O' : List Addr) (σ' : L2.St) (dd : Addr) (v : V) (H' : Hp), Wd C d δ' → Rel B O' σ' H' δ' → Dv (Fz O' δ'.own H') v d → H' dd = some (xdV v) → W (.ref C) (some dd) σ' H'
/-- the error that a suite has caught: at dd its dict -/
structure ErrD (K : PySem.W.Frag) (B : Base) (C dd : Addr) (v : V) (d : D) : Prop where
  c : Ec K C
  x : Fz B.O B.S B.H dd (xdV v)
  v : Dv (Fz B.O B.S B.H) v d
def dTry (K : PySem.W.Frag) (c i : Nat) (tb : WD → DP) (ts : Addr → Addr → D → DP) : DP := fun D δ => ∃ Wd, tb Wd D δ ∧ ∀ C d δ', Wd C d δ' → Ec K C ∧ PySem.W.exmOne K (.ref C) (.ref c) = some true ∧
  ∀ a, ts a C d { nx := fun δ2 => D.nx ⟨δ2.slots.set i none, δ2.own⟩, rt := D.rt, bk := fun δ2 => D.bk ⟨δ2.slots.set i none, δ2.own⟩, ct := fun δ2 => D.ct ⟨δ2.slots.set i none, δ2.own⟩ } ⟨δ'.slots.set i (some (.dat (.con (.ref a)))), δ'.own⟩
theorem Rel.off {B : Base} {O : List Addr} {σ : L2.St} {H : Hp} {δ : DS} (r : Rel B O σ H δ) (i : Nat) : Rel B O (σ.set i none) H ⟨δ.slots.set i none, δ.own⟩ := by
  refine ⟨r.st, r.bs, fun j u e => ?_, by rw [List.length_set, List.length_set]; exact r.ln⟩
  have e : (δ.slots.set i none)[j]? = some (some u) := e
  by_cases c : i = j
  · subst c
    rw [List.getElem?_set] at e
    split at e
    · split at e <;> cases e
    · exact absurd rfl ‹_›
  · rw [List.getElem?_set_ne c] at e
    obtain ⟨v, h1, h2⟩ := r.sl j u e
    exact ⟨v, by rw [List.getElem?_set_ne c]; exact h1, h2⟩
theorem Rel.base {B B' : Base} {O : List Addr} {σ : L2.St} {H : Hp} {δ : DS} (r : Rel B O σ H δ) (e : Ext B'.O B'.S B'.H O δ.own H) : Rel B' O σ H δ := ⟨r.st, e, r.sl, r.ln⟩
section
variable {X : Cx} {B : Base} {x n : Str} {c i : Nat} {body suite : List Stmt} {b₀ : Stmt} {np pos pos' : Pos} {tb : WD → DP} {ts : Addr → Addr → D → DP}
theorem v_try (hs : X.stack = X.env :: X.outer) (hf : X.env.frame = some X.env.locals) (hN : X.N.Nodup) (hi : X.N[i]? = some n) (hln : X.env.kindOf n = some .local) (hc : Names X x (.ref c))
    (hb : ∀ (B1 : Base) (Wd : WD) (W : WX) (pn : List (Addr × Obj)) (xe : Value → Shared → Prop), L2.Takes (X.tr pn xe) W → LW B1 Wd W → PSs (X.tr pn xe) body (upS B1 (tb Wd)))
    (hsu : ∀ (B2 : Base) (a : Addr) (oe : Obj) (C dd : Addr) (v : V) (d : D) (pn : List (Addr × Obj)), Zc (.ref C) (some dd) oe → (∃ vs, oe.data = .fields vs) → ErrD X.K B2 C dd v d → PSs (X.suite a ((a, oe) :: pn)) (b₀ :: suite) (upS B2 (ts a C d))) :
    PS X (.Try body [.ExceptHandler (some (.Name x np)) (some n) (b₀ :: suite) pos'] [] [] pos) (upS B (dTry X.K c i tb ts)) := by
  refine ps_imp (ps_try_as (i := i) (c := .ref c) (Wout := fun _ _ _ _ => False) (tb := fun W D σ H => ∃ B1 Wd, LW B1 Wd W ∧ upS B1 (tb Wd) D σ H)
    (ts := fun a cls d D σ H => ∃ B2 C dd v dv, (cls = .ref C ∧ d = some dd ∧ ErrD X.K B2 C dd v dv) ∧ upS B2 (ts a C dv) D σ H) hs hf hN hi hln hc takes0
    (fun W pn xe tk po => ⟨fun pins s σ H D I ⟨B1, Wd, l, q⟩ => (hb B1 Wd W pn xe tk l).run pins s σ H D I q⟩)
    (fun a oe cls d pn hz hv => ⟨fun pins s σ H D I ⟨B2, C, dd, v, dv, ⟨e1, e2, er⟩, q⟩ => by
      subst e1 e2
      exact (hsu B2 a oe C dd v dv pn hz hv er).run pins s σ H D I q⟩)) ?_
  rintro E σ H ⟨O, δ, Dd, R, ⟨Wd, h1, h2⟩, L⟩
  refine ⟨⟨O, δ.own, H⟩, Wd, ?_, O, δ, Dd, R.base .refl, h1, ?_⟩
  · intro C d δ' O' σ' dd v H' w R' hv hx
    obtain ⟨ec, ex, hst⟩ := h2 C d δ' w
    refine ⟨true, ex, fun _ a na => ?_, fun z => Bool.noConfusion z⟩
    have e1 : Ext O δ.own H O' δ'.own H' := R'.bs
    refine ⟨⟨O', δ'.own, H'⟩, C, dd, v, d, ⟨rfl, rfl, ec, fz_xd R'.st hx, hv⟩, O', _, _, (R'.base .refl).set (w := .dat (.con (.ref a))) i (Dv.con _), hst a, ?_⟩
    exact ⟨fun δ3 O3 σ3 H3 q e3 R3 => L.nx _ O3 _ H3 q (e1.trans e3) ((R3.base ((R.bs.trans e1).trans e3)).off i),
      fun u δ3 O3 σ3 v3 H3 q e3 R3 r3 => L.rt u δ3 O3 σ3 v3 H3 q (e1.trans e3) (R3.base ((R.bs.trans e1).trans e3)) r3,
      fun δ3 O3 σ3 H3 q e3 R3 => L.bk _ O3 _ H3 q (e1.trans e3) ((R3.base ((R.bs.trans e1).trans e3)).off i),
      fun δ3 O3 σ3 H3 q e3 R3 => L.ct _ O3 _ H3 q (e1.trans e3) ((R3.base ((R.bs.trans e1).trans e3)).off i)⟩
  · exact ⟨fun δ3 O3 σ3 H3 q e3 R3 => L.nx δ3 O3 σ3 H3 q e3 (R3.base (R.bs.trans e3)),
      fun u δ3 O3 σ3 v3 H3 q e3 R3 r3 => L.rt u δ3 O3 σ3 v3 H3 q e3 (R3.base (R.bs.trans e3)) r3,
      fun δ3 O3 σ3 H3 q e3 R3 => L.bk δ3 O3 σ3 H3 q e3 (R3.base (R.bs.trans e3)),
      fun δ3 O3 σ3 H3 q e3 R3 => L.ct δ3 O3 σ3 H3 q e3 (R3.base (R.bs.trans e3))⟩
end
section
variable {X : Cx} {B : Base} {e : Expr} {es : List Expr} {pos p : Pos} {t : DA} {ta : DE} {sd : SpD} {W : WX} {Wd : WD}
/-- a call in a try's body -/
def dCallT (sd : SpD) (Wd : WD) (t : DA) : DE := fun δ Q => t δ fun ws δ1 => sd ws δ1.own (fun w S' => Q w ⟨δ1.slots, S'⟩) (fun C d S' => Wd C d ⟨δ1.slots, S'⟩)
theorem v_callT (lw : LW B Wd W) (h : PE X e (tCallS (lift sd) (WE W) (upA B t))) : PE X e (upE B (dCallT sd Wd t)) := pe_imp h fun σ H Q ⟨O, δ, Qd, R, h, L⟩ =>
  ⟨O, δ, _, R, h, fun ws δ1 O1 vs H1 q e1 R1 r1 => ⟨O1, δ1.own, ws, _, _, R1.st, r1, q, ⟨fun w S' O' v H' q' e' st' wr => L w _ O' v H' q' (e1.trans e') (R1.to st' e') wr⟩,
    ⟨fun C d S' O' dd v H' q' e' st' hv hd => lw C d _ O' σ dd v H' q' (R1.to st' e') hv hd⟩⟩⟩
/-- error.value in a suite -/
def dXf (a : Addr) (d : D) (ta : DE) : DE := fun δ Q => ta δ fun w δ1 => w = .dat (.con (.ref a)) ∧ Q (.dat d) δ1
theorem v_xf {a C dd : Addr} {oe : Obj} {v : V} {d : D} {pn : List (Addr × Obj)} (hz : Zc (.ref C) (some dd) oe) (hf : ∃ vs, oe.data = .fields vs) (er : ErrD X.K B C dd v d)
    (he : PE (X.suite a ((a, oe) :: pn)) e (upE B ta)) (hb : attributeBase e "value" X.env (eval e X.env) = eval e X.env := by rfl) : PE (X.suite a ((a, oe) :: pn)) (.Attribute e "value" pos) (upE B (dXf a d ta)) :=
  pe_imp (pe_xfD hz hf he hb) fun σ H Q ⟨O, δ, Qd, R, h, L⟩ => ⟨O, δ, _, R, h, fun w δ1 O1 u H1 ⟨ew, q⟩ e1 R1 r1 => by
    subst ew
    cases r1
    exact ⟨rfl, C, dd, _, v, rfl, er.c, er.c.v, rfl, (R1.bs.fz _ _ er.x).1, rfl, L _ δ1 O1 v H1 q e1 R1 (er.v.k R1.bs.fz)⟩⟩
/-- isinstance(error, c) in a suite -/
def rdIsE (K : PySem.W.Frag) (a C : Addr) : RCd := fun ws δ Q => ∃ c b, ws = [.dat (.con (.ref a)), .dat (.con (.ref c))] ∧ PySem.W.kitOne K (.ref C) (.ref c) = some b ∧ Q (.dat (.bl b)) δ
def dIsE (K : PySem.W.Frag) (a C : Addr) (t : DA) : DE := dCB (rdIsE K a C) t
theorem v_isE {a C dd : Addr} {v : V} {d : D} (er : ErrD X.K B C dd v d) (h : PE X e (tCB (rIsD X.K a (.ref C) (some dd)) (upA B t))) : PE X e (upE B (dCB (rdIsE X.K a C) t)) := pe_imp h fun σ H Q ⟨O, δ, Qd, R, h, L⟩ =>
  ⟨O, δ, _, R, h, fun ws δ1 O1 vs H1 ⟨c, b, ew, k, q⟩ e1 R1 r1 => by
    subst ew
    obtain ⟨y, z, rfl, r2, r3⟩ := r1.two
    cases r2
    cases r3
    exact ⟨C, dd, _, .ref c, .ref c, b, rfl, er.c, rfl, (R1.bs.fz _ _ er.x).1, rfl, .own c, k, L _ δ1 O1 _ H1 q e1 R1 (.bl b)⟩⟩
end
end Va

set_option maxRecDepth 100000
set_option maxHeartbeats 2000000
namespace Va
open PySem PySem.Spec PyProof.Rows L2 Fd

/-! ### an own object beside a thing of another kind: ==, and != of two own objects -/
theorem isInst_no {M : Model} {A : Around} {Er : Value → Shared → Prop} {s : Shared} {K : PySem.W.Frag} {x C : Addr} {ox : Obj} {od : Option Obj} {T : Value} {Q : Bool → Shared → Prop} (kin : K.In s.heap) (J : PySem.W.InstAt s.heap x ox C od)
    (hs : PySem.W.subIn K (.ref C) T = some false) (q : Q false s) : wpAny M A (isInstance (.ref x) T) Q Er s := by
  unfold isInstance
  exact wpAny_bind (J.type.here ((PySem.W.looks_subIn kin hs).here q))
theorem tup_eq_own (t x : Addr) : Meets (Builtin.«tuple.__eq__» ⟨[.ref t, .ref x], []⟩) (fun _ R s => (∃ K C ox od, PySem.W.Frag.In K s.heap ∧ PySem.W.InstAt s.heap x ox C od ∧ PySem.W.subIn K (.ref C) (.type "tuple") = some false) ∧ R (.ok (.ret .notImplemented)) s) := by
  refine .of_wp fun prog w A R s h => ?_
  obtain ⟨⟨K, C, ox, od, kin, J, hs⟩, h⟩ := h
  have no : ∀ {A1 : Around} {F : Value → Shared → Prop} {Q : Bool → Shared → Prop}, Q false s → wpAny (model prog w) A1 (isInstance (.ref x) (.type "tuple")) Q F s := fun q => isInst_no kin J hs q
  rcases s with ⟨h0, g, d, tk, os⟩
  wp_walk using no
  exact ⟨_, rfl, h⟩
theorem run_own {X : Cx} {A1 : Around} {n : Nat} {f : Addr} {fd : FuncData} {ps : List Str} {sp : Sp} {E : XK} {pins : List (Addr × Obj)} {σ : L2.St} {H : Hp} {s : Shared} {Q : VK} {xs : List V} {us : List Value} (Fo : FnOk X.prog X.w X.K X.mg X.base (L2.CX X.prog X.w) n f fd ps sp) (hb : Binds X.K fd ps [])
    (hr : Room n A1) (hx : Passes (L2.CX X.prog X.w) X E) (I : Inv X pins σ H s) (e0 : Env0 X.prog X.w X.K X.mg X.base A1 X.stack s H) (r : Vals xs us) (hsp : sp xs H (fun v H' => (∃ k, v = .bl k) ∧ Q v H') E) :
    wpAny (model X.prog X.w) A1 (call (.ref f) us) (fun z s' => ∃ (k : Bool) (H' : Hp), z = .bool k ∧ Inv X pins σ H' s' ∧ Q (.bl k) H') X.xe s := by
  have hl := Fo.len _ _ _ _ hsp
  refine wpAny_call (codeAny_mono (Fo.run A1 X.stack s H ⟨us, []⟩ us xs _ E hr e0 (by
    have := hb s us I.kIn (by rw [List.append_nil, ← r.length]; exact hl)
    simpa using this) r hsp) fun z s' hq => ?_)
  cases z with
  | error e => exact hx pins σ H s e s' I hq
  | ok fl =>
    cases fl with
    | ret w =>
      obtain ⟨z, H', I', rz, ⟨k, ez⟩, q⟩ := I.after hq
      subst ez
      cases rz
      exact ⟨k, H', rfl, I', q⟩
    | next => exact False.elim hq
    | brk => exact False.elim hq
    | cont => exact False.elim hq
def rEqBack (K : PySem.W.Frag) (C : Addr) (sp : Sp) (E : XK) : R2 := fun x y H Q => ∃ t a xs dx fs, x = .ref t ∧ y = .ref a ∧ SqT K H t xs ∧ H a = some (.ins C dx fs) ∧ sp [y, x] H (fun v H' => (∃ k, v = .bl k) ∧ Q v H') E
/-- a tuple == an own object: the tuple says nothing, the object is asked -/
theorem op_eqBack {X : Cx} {n : Nat} {C : Addr} {ps : List Str} {sp : Sp} {E : XK} (Ef : EqF X.prog X.w X.K X.mg X.base n C ps sp) (hr : Room n X.A) (hx : Passes (L2.CX X.prog X.w) X E) (hsub : PySem.W.subIn X.K (.ref C) (.type "tuple") = some false) : OpR X (compareOp .Eq) (rEqBack X.K C sp E) := by
  intro pins s σ H x y v u Q I rx ry ⟨t, a, xs, dx, fs, ex, ey, ht, ha, hsp⟩
  obtain ⟨f, fd, hs, hf, hb, Fo⟩ := Ef.ex
  subst ex ey
  cases rx
  cases ry
  obtain ⟨mA, J, _⟩ := ins_get I.hok ha
  obtain ⟨od, J, _⟩ := J.look
  obtain ⟨its, rv, p, _⟩ := I.tuple ht
  have p : s.heap.IsTuple t its.toArray := p
  have hT : s.TypeIs (.ref t) "tuple" := let ⟨o, ho, hc, _⟩ := p; ⟨o, ho, hc⟩
  show wpAny (model X.prog X.w) X.A (richCompare .Eq (.ref t) (.ref a)) (EP X pins σ Q) X.xe s
  have one : wpAny (model X.prog X.w) X.A (tryCompare (.ref t) "__eq__" (.ref a)) (fun r s' => r = none ∧ s' = s) X.xe s := by
    obtain ⟨⟨c, dd, dt, sl⟩, ho, hc, m, hd⟩ := p
    obtain rfl : c = .type "tuple" := hc
    obtain rfl : dt = .seq its.toArray m := hd
    exact wpAny_tryCompare_declines hT F.slot_tuple_eq (call_meets F.slot_tuple_eq hT F.entry_tuple_eq (F.args_tuple_eq_2 _ _) (tup_eq_own t a) ⟨⟨X.K, C, _, _, I.kIn, J, hsub⟩, rfl, rfl, rfl⟩)
  have two : wpAny (model X.prog X.w) X.A (tryCompare (.ref a) "__eq__" (.ref t)) (fun r s' => ∃ v, r = some v ∧ EP X pins σ Q v s') X.xe s := by
    unfold tryCompare
    refine wpAny_bind (PySem.W.ifBound_K I.kIn J hs hf (wpAny_mono (run_own (xs := [.ref a, .ref t]) Fo hb hr hx I I.env0 (.cons rfl (.cons rfl .nil)) hsp) (fun v s' hv => ?_) fun _ _ e => e))
    obtain ⟨k, H', rfl, I', q⟩ := hv
    exact wpAny_pure ⟨_, rfl, .bl k, H', I', rfl, q⟩
  simp only [richCompare, cmpInfo_Eq, oneThing_ref]
  refine wpAny_holding (wpAny_bind (wpAny_cRoomFor hr.units0 ?_))
  refine wpAny_bind (wpAny_typeOf hT ?_)
  refine wpAny_bind (J.type.here ?_)
  have rest : wpAny (model X.prog X.w) X.A (do
      if let some v ← tryCompare (.ref t) "__eq__" (.ref a) then return v
      if let some v ← tryCompare (.ref a) "__eq__" (.ref t) then return v
      rule "compare.eq-identity"
      return .bool (← isSame (.ref t) (.ref a)) : Sem Value) (EP X pins σ Q) X.xe s := by
    refine wpAny_bind (wpAny_mono one (fun r s1 z => ?_) fun _ _ e => e)
    obtain ⟨rfl, rfl⟩ := z
    refine wpAny_bind (wpAny_mono two (fun r s2 z => ?_) fun _ _ e => e)
    obtain ⟨v, rfl, q⟩ := z
    exact wpAny_pure q
  split
  · refine wpAny_bind ((PySem.W.looks_subIn I.kIn hsub).here ?_)
    simp only [Bool.false_eq_true, if_false, Bool.not_false, if_true]
    exact rest
  · rename_i q
    exact absurd (by simp) q
/-- an own object == a thing of a built-in kind -/
def rEqSide (K : PySem.W.Frag) (C : Addr) (sp : Sp) (E : XK) : R2 := fun x y H Q => ∃ a dx fs, x = .ref a ∧ H a = some (.ins C dx fs) ∧ ((∃ t xs, y = .ref t ∧ SqT K H t xs) ∨ ∃ i, y = .int i) ∧ sp [x, y] H (fun v H' => (∃ k, v = .bl k) ∧ Q v H') E
theorem sub_int {K : PySem.W.Frag} {C : Addr} : PySem.W.subIn K (.type "int") (.ref C) = some false := by
  have e : fastBuiltinMro "int" = some [.type "int", .type "object"] := by decide +kernel
  show (fastBuiltinMro "int").map (·.contains (.ref C)) = some false
  rw [e]
  first
    | rfl
    | simp
theorem sub_tup {K : PySem.W.Frag} {C : Addr} : PySem.W.subIn K (.type "tuple") (.ref C) = some false := by
  have e : fastBuiltinMro "tuple" = some [.type "tuple", .type "object"] := by decide +kernel
  show (fastBuiltinMro "tuple").map (·.contains (.ref C)) = some false
  rw [e]
  first
    | rfl
    | simp
theorem op_eqSide {X : Cx} {n : Nat} {C : Addr} {ps : List Str} {sp : Sp} {E : XK} (Ef : EqF X.prog X.w X.K X.mg X.base n C ps sp) (hr : Room n X.A) (hx : Passes (L2.CX X.prog X.w) X E) : OpR X (compareOp .Eq) (rEqSide X.K C sp E) := by
  intro pins s σ H x y v u Q I rx ry ⟨a, dx, fs, ex, ha, hy, hsp⟩
  obtain ⟨f, fd, hs, hf, hb, Fo⟩ := Ef.ex
  subst ex
  cases rx
  obtain ⟨mA, J, _⟩ := ins_get I.hok ha
  obtain ⟨od, J, _⟩ := J.look
  obtain ⟨m, hF⟩ := I.fr
  show wpAny (model X.prog X.w) X.A (richCompare .Eq (.ref a) u) (EP X pins σ Q) X.xe s
  have back : wpAny (model X.prog X.w) X.A (call (.ref f) [.ref a, u]) (PySem.W.CmpBack (EP X pins σ Q)) X.xe s := wpAny_mono (run_own (xs := [.ref a, y]) Fo hb hr hx I I.env0 (.cons rfl (.cons ry .nil)) hsp) (fun z s' hz => by
    obtain ⟨k, H', rfl, I', q⟩ := hz
    exact ⟨.bl k, H', I', rfl, q⟩) fun _ _ e => e
  rcases hy with ⟨t, xs, rfl, ht⟩ | ⟨i, rfl⟩
  · cases ry
    obtain ⟨its, rv, p, _⟩ := I.tuple ht
    have p : s.heap.IsTuple t its.toArray := p
    obtain ⟨o, ho, hc, _⟩ := p
    exact PySem.W.cmp_K (op := .Eq) (tb := .type "tuple") hr.units0 hF I.ok.mod.kin J (fun A Q E s1 k q => wpAny_typeOf_ref (k _ _ ho) (by rw [hc]; exact q)) (by unfold PySem.W.notFirst; rw [sub_tup]; simp) hs hf back
  · obtain ⟨tk, rfl⟩ := ry
    exact PySem.W.cmp_K (op := .Eq) (tb := .type "int") hr.units0 hF I.ok.mod.kin J (fun A Q E s1 k q => wpAny_of_eq rfl q) (by unfold PySem.W.notFirst; rw [sub_int]; simp) hs hf back

/-! ### != of two own objects: asked by == -/
theorem ifBound_objNe {M : Model} {A : Around} {Er : Value → Shared → Prop} {s : Shared} {K : PySem.W.Frag} {x C : Addr} {ox : Obj} {od : Option Obj} {us : List Value} {Q : Option Value → Shared → Prop} (kin : K.In s.heap) (J : PySem.W.InstAt s.heap x ox C od)
    (hs : PySem.W.findIn K (.ref C) "__ne__" = some (some (.builtin "object.__ne__"))) (h : wpAny M A (call (.builtin "object.__ne__") (.ref x :: us)) (fun v => Q (some v)) Er s) : wpAny M A (callSpecialIfBound? (.ref x) "__ne__" us) Q Er s := by
  have fin : wpAny M A (call (.builtin "object.__ne__") ([.ref x] ++ us) >>= fun v => pure (some v)) Q Er s := wpAny_bind (wpAny_mono h (fun v s' z => wpAny_pure z) fun _ _ z => z)
  simp only [callSpecialIfBound?, bindSpecialIfBound?]
  refine wpAny_holding (wpAny_bind (wpAny_bind (wpAny_bind (J.type.here ((PySem.W.looks_findIn kin hs).here (wpAny_bind (wpAny_askSetting (wpAny_ite ?_))))))))
  split
  · exact wpAny_bind (wpAny_of_eq (F.cmp_object.ne.bind _) (wpAny_pure (by exact fin)))
  · exact wpAny_tryCatch (wpAny_bind (wpAny_of_eq (F.cmp_object.ne.bind _) (wpAny_pure (by exact fin))))
theorem objNe_own {prog : Program} {w : World} {A : Around} {Er : Value → Shared → Prop} {s : Shared} {K : PySem.W.Frag} {x y C f : Addr} {ox : Obj} {od : Option Obj} {Q : Fin → Shared → Prop} (hu : A.units < cLine) (kin : K.In s.heap) (J : PySem.W.InstAt s.heap x ox C od)
    (hs : PySem.W.findIn K (.ref C) "__eq__" = some (some (.ref f))) (hf : PySem.W.isFn K (.ref f) = true) (h : wpAny (model prog w) A (call (.ref f) [.ref x, .ref y]) (fun v s' => ∃ b, v = .bool b ∧ Q (.done (.ret (.bool (!b)))) s') Er s) :
    wpAny (model prog w) A (Builtin.«object.__ne__» ⟨[.ref x, .ref y], []⟩) Q Er s := by
  unfold Builtin.«object.__ne__»
  repeat (first
    | with_reducible refine wpAny_cRoomFor hu ?_
    | (refine wpAny_bind (m := callSpecialIfBound? (.ref x) (Str.ofString "__eq__") [.ref y]) (PySem.W.ifBound_K kin J hs hf (wpAny_mono h (fun v s' z => by
        obtain ⟨b, rfl, q⟩ := z
        repeat (first | exact q | exact wpAny_pure q | exact wpAny_truthy_bool q | (refine wpAny_bind (m := truthy (.bool _)) (wpAny_truthy_bool ?_)) | wp_step)) fun _ _ z => z)))
    | wp_step)
def rNeOwn (C : Addr) (sp : Sp) (E : XK) : R2 := fun x y H Q => ∃ a b dx dy fs gs, x = .ref a ∧ y = .ref b ∧ H a = some (.ins C dx fs) ∧ H b = some (.ins C dy gs) ∧ sp [x, y] H (fun v H' => (∃ k, v = .bl k) ∧ ∃ k, v = .bl k ∧ Q (.bl (!k)) H') E
theorem op_neOwn {X : Cx} {n : Nat} {C : Addr} {ps : List Str} {sp : Sp} {E : XK} (Ef : EqF X.prog X.w X.K X.mg X.base n C ps sp) (hr : Room (n + 1) X.A) (hx : Passes (L2.CX X.prog X.w) X E) (hm : PySem.W.mroIn X.K C (.type "object") = some true)
    (hne : PySem.W.findIn X.K (.ref C) "__ne__" = some (some (.builtin "object.__ne__"))) : OpR X (compareOp .NotEq) (rNeOwn C sp E) := by
  intro pins s σ H x y v u Q I rx ry ⟨a, b, dx, dy, fs, gs, ex, ey, ha, hb', hsp⟩
  obtain ⟨f, fd, hs, hf, hb, Fo⟩ := Ef.ex
  subst ex ey
  cases rx
  cases ry
  obtain ⟨mA, J, _⟩ := ins_get I.hok ha
  obtain ⟨mB, J', _⟩ := ins_get I.hok hb'
  obtain ⟨od, J, _⟩ := J.look
  obtain ⟨od', J', _⟩ := J'.look
  show wpAny (model X.prog X.w) X.A (richCompare .NotEq (.ref a) (.ref b)) (EP X pins σ Q) X.xe s
  have one : wpAny (model X.prog X.w) X.A (tryCompare (.ref a) "__ne__" (.ref b)) (fun r s' => ∃ v, r = some v ∧ EP X pins σ Q v s') X.xe s := by
    unfold tryCompare
    refine wpAny_bind (ifBound_objNe I.kIn J hne (wpAny_call (codeAny_call_builtin F.cmp_object.ne.plain F.cmpEntry_ne (PySem.W.check_slot F.cmpKind_ne F.cmpSplit_ne (J.type.andThen (PySem.W.looks_mroIn I.kIn hm)) (F.cmpArgs_ne _ _)
      (objNe_own hr.in1.units0 I.kIn J hs hf (wpAny_mono (run_own (Q := fun v H' => ∃ k, v = .bl k ∧ Q (.bl (!k)) H') (xs := [.ref a, .ref b]) Fo hb hr.in1 hx I I.env0.in1 (.cons rfl (.cons rfl .nil)) hsp) (fun z s' hz => ?_) fun _ _ e => e))))))
    obtain ⟨k, H', rfl, I', k2, e, q⟩ := hz
    cases e
    exact ⟨k, rfl, wpAny_pure ⟨_, rfl, .bl (!k), H', I', rfl, q⟩⟩
  unfold richCompare
  simp only [oneThing_ref]
  refine wpAny_holding (wpAny_bind (wpAny_cRoomFor hr.units0 ?_))
  rw [cmpInfo_NotEq]
  dsimp only
  refine wpAny_bind (J.type.here (wpAny_bind (J'.type.here ?_)))
  rw [show (Value.ref C != Value.ref C) = false from by simp]
  simp only [Bool.false_eq_true, if_false]
  refine wpAny_bind (wpAny_pure ?_)
  simp only [Bool.false_eq_true, if_false]
  refine wpAny_bind (wpAny_mono one (fun r s1 z => ?_) fun _ _ e => e)
  obtain ⟨v, rfl, q⟩ := z
  exact wpAny_pure q
section
variable {X : Cx} {B : Base} {a b : Expr} {pos : Pos} {n : Nat} {C : Addr} {ps : List Str} {sd : SpD} {Ed : XD} {E : XK} {ta tb : DE}
theorem LE.lk {O : List Addr} {σ : L2.St} {H : Hp} {δ : DS} (le : LE B Ed E) (R : Rel B O σ H δ) : LkE O δ.own H Ed E := ⟨fun C d S' O' dd v H' q e' st' hv hd => le C d S' O' dd v H' q (R.bs.trans e') st' hv hd⟩
theorem test_of {r : R2} {rd : R2d} (up : ∀ (σ : L2.St) (H : Hp) (Q : VK), upE B (d2 rd ta tb) σ H Q → tOp r (upE B ta) (upE B tb) σ H Q) (σ : L2.St) (H : Hp) (Q : Bool → Hp → Prop) : upT B (dTest (d2 rd ta tb)) σ H Q → tTest (tOp r (upE B ta) (upE B tb)) σ H Q := fun ⟨O, δ, Qd, R, h, L⟩ =>
  up σ H _ ⟨O, δ, _, R, h, fun w δ1 O1 v H1 ⟨k, ew, q⟩ e1 R1 r1 => by
    subst ew
    cases r1
    exact ⟨k, rfl, L k δ1 O1 H1 q e1 R1⟩⟩
/-- own == tuple or number -/
def rdEqSide (C : Addr) (sd : SpD) (Ed : XD) : R2d := fun w u δ Q => ∃ ns ds, Pk δ.own w (.ins C ns ds) ∧ ((∃ es, u = .dat (.tup es)) ∨ ∃ i, u = .dat (.int i)) ∧ sd [w, u] δ.own (fun z S' => (∃ k, z = .dat (.bl k)) ∧ Q z ⟨δ.slots, S'⟩) Ed
theorem up_eqSide {K : PySem.W.Frag} (le : LE B Ed E) (σ : L2.St) (H : Hp) (Q : VK) : upE B (d2 (rdEqSide C sd Ed) ta tb) σ H Q → tOp (rEqSide K C (lift sd) E) (upE B ta) (upE B tb) σ H Q := fun ⟨O, δ, Qd, R, h, L⟩ =>
  ⟨O, δ, _, R, h, fun w δ1 O1 v H1 q e1 R1 r1 => ⟨O1, δ1, _, R1, q, fun u δ2 O2 y H2 ⟨ns, ds, p1, p2, q2⟩ e2 R2 r2 => by
    have r1 := r1.ext e2
    obtain ⟨a, dx, xs, rfl, ea, _⟩ := pk_vw R2.st r1 p1
    have side : (∃ t xs, y = .ref t ∧ SqT K H2 t xs) ∨ ∃ i, y = .int i := by
      rcases p2 with ⟨es, rfl⟩ | ⟨i, rfl⟩
      · cases r2 with
        | tup e l => exact .inl ⟨_, _, rfl, SqT.of e.1⟩
      · cases r2
        exact .inr ⟨i, rfl⟩
    refine ⟨a, dx, _, rfl, ea, side, O2, δ2.own, _, _, Ed, R2.st, .cons r1 (.cons r2 .nil), q2, ⟨fun z S' O' v H' q' e' st' wr => ?_⟩, le.lk R2⟩
    obtain ⟨⟨k, ez⟩, q'⟩ := q'
    subst ez
    cases wr
    exact ⟨⟨k, rfl⟩, L _ _ O' _ H' q' ((e1.trans e2).trans e') (R2.to st' e') (.bl k)⟩⟩⟩
theorem v_eqSide (le : LE B Ed E) (F : EqF X.prog X.w X.K X.mg X.base n C ps (lift sd)) (hr : Room n X.A) (hx : Passes (L2.CX X.prog X.w) X E) (ha : PE X a (upE B ta)) (hb : PE X b (upE B tb)) (hm : behindInMarks .Eq b = false := by exact nomark _) :
    PE X (.Compare a [.Eq] [b] pos) (upE B (d2 (rdEqSide C sd Ed) ta tb)) := pe_imp (pe_cmpR (op_eqSide F hr hx) ha hb hm) (up_eqSide le)
theorem vt_eqSide (le : LE B Ed E) (F : EqF X.prog X.w X.K X.mg X.base n C ps (lift sd)) (hr : Room n X.A) (hx : Passes (L2.CX X.prog X.w) X E) (ha : PE X a (upE B ta)) (hb : PE X b (upE B tb)) (hm : behindInMarks .Eq b = false := by exact nomark _) :
    PT X (.Compare a [.Eq] [b] pos) (upT B (dTest (d2 (rdEqSide C sd Ed) ta tb))) := pt_imp (pt_cmpR (op_eqSide F hr hx) ha hb hm) (test_of (up_eqSide le))
/-- tuple == own -/
def rdEqBack (C : Addr) (sd : SpD) (Ed : XD) : R2d := fun w u δ Q => ∃ es ns ds, w = .dat (.tup es) ∧ Pk δ.own u (.ins C ns ds) ∧ sd [u, w] δ.own (fun z S' => (∃ k, z = .dat (.bl k)) ∧ Q z ⟨δ.slots, S'⟩) Ed
theorem up_eqBack {K : PySem.W.Frag} (le : LE B Ed E) (σ : L2.St) (H : Hp) (Q : VK) : upE B (d2 (rdEqBack C sd Ed) ta tb) σ H Q → tOp (rEqBack K C (lift sd) E) (upE B ta) (upE B tb) σ H Q := fun ⟨O, δ, Qd, R, h, L⟩ =>
  ⟨O, δ, _, R, h, fun w δ1 O1 v H1 q e1 R1 r1 => ⟨O1, δ1, _, R1, q, fun u δ2 O2 y H2 ⟨es, ns, ds, ew, p1, q2⟩ e2 R2 r2 => by
    subst ew
    have r1 := r1.ext e2
    obtain ⟨a, dx, xs, rfl, ea, _⟩ := pk_vw R2.st r2 p1
    obtain ⟨t, ys, rfl, ht⟩ : ∃ t ys, v = .ref t ∧ SqT K H2 t ys := by
      cases r1 with
      | tup e l => exact ⟨_, _, rfl, SqT.of e.1⟩
    refine ⟨t, a, ys, dx, _, rfl, rfl, ht, ea, O2, δ2.own, _, _, Ed, R2.st, .cons r2 (.cons r1 .nil), q2, ⟨fun z S' O' v H' q' e' st' wr => ?_⟩, le.lk R2⟩
    obtain ⟨⟨k, ez⟩, q'⟩ := q'
    subst ez
    cases wr
    exact ⟨⟨k, rfl⟩, L _ _ O' _ H' q' ((e1.trans e2).trans e') (R2.to st' e') (.bl k)⟩⟩⟩
theorem v_eqBack (le : LE B Ed E) (F : EqF X.prog X.w X.K X.mg X.base n C ps (lift sd)) (hr : Room n X.A) (hx : Passes (L2.CX X.prog X.w) X E) (hsub : PySem.W.subIn X.K (.ref C) (.type "tuple") = some false) (ha : PE X a (upE B ta)) (hb : PE X b (upE B tb)) (hm : behindInMarks .Eq b = false := by exact nomark _) :
    PE X (.Compare a [.Eq] [b] pos) (upE B (d2 (rdEqBack C sd Ed) ta tb)) := pe_imp (pe_cmpR (op_eqBack F hr hx hsub) ha hb hm) (up_eqBack le)
theorem vt_eqBack (le : LE B Ed E) (F : EqF X.prog X.w X.K X.mg X.base n C ps (lift sd)) (hr : Room n X.A) (hx : Passes (L2.CX X.prog X.w) X E) (hsub : PySem.W.subIn X.K (.ref C) (.type "tuple") = some false) (ha : PE X a (upE B ta)) (hb : PE X b (upE B tb)) (hm : behindInMarks .Eq b = false := by exact nomark _) :
    PT X (.Compare a [.Eq] [b] pos) (upT B (dTest (d2 (rdEqBack C sd Ed) ta tb))) := pt_imp (pt_cmpR (op_eqBack F hr hx hsub) ha hb hm) (test_of (up_eqBack le))
/-- own != own -/
def rdNeOwn (C : Addr) (sd : SpD) (Ed : XD) : R2d := fun w u δ Q => ∃ ns ds ms es, Pk δ.own w (.ins C ns ds) ∧ Pk δ.own u (.ins C ms es) ∧ sd [w, u] δ.own (fun z S' => ∃ k, z = .dat (.bl k) ∧ Q (.dat (.bl (!k))) ⟨δ.slots, S'⟩) Ed
theorem up_neOwn (le : LE B Ed E) (σ : L2.St) (H : Hp) (Q : VK) : upE B (d2 (rdNeOwn C sd Ed) ta tb) σ H Q → tOp (rNeOwn C (lift sd) E) (upE B ta) (upE B tb) σ H Q := fun ⟨O, δ, Qd, R, h, L⟩ =>
  ⟨O, δ, _, R, h, fun w δ1 O1 v H1 q e1 R1 r1 => ⟨O1, δ1, _, R1, q, fun u δ2 O2 y H2 ⟨ns, ds, ms, es, p1, p2, q2⟩ e2 R2 r2 => by
    have r1 := r1.ext e2
    obtain ⟨a, dx, xs, rfl, ea, _⟩ := pk_vw R2.st r1 p1
    obtain ⟨b, dy, ys, rfl, eb, _⟩ := pk_vw R2.st r2 p2
    refine ⟨a, b, dx, dy, _, _, rfl, rfl, ea, eb, O2, δ2.own, _, _, Ed, R2.st, .cons r1 (.cons r2 .nil), q2, ⟨fun z S' O' v H' q' e' st' wr => ?_⟩, le.lk R2⟩
    obtain ⟨k, ez, q'⟩ := q'
    subst ez
    cases wr
    exact ⟨⟨k, rfl⟩, k, rfl, L _ _ O' _ H' q' ((e1.trans e2).trans e') (R2.to st' e') (.bl (!k))⟩⟩⟩
theorem v_neOwn (le : LE B Ed E) (F : EqF X.prog X.w X.K X.mg X.base n C ps (lift sd)) (hr : Room (n + 1) X.A) (hx : Passes (L2.CX X.prog X.w) X E) (hmr : PySem.W.mroIn X.K C (.type "object") = some true) (hne : PySem.W.findIn X.K (.ref C) "__ne__" = some (some (.builtin "object.__ne__")))
    (ha : PE X a (upE B ta)) (hb : PE X b (upE B tb)) (hm : behindInMarks .NotEq b = false := by exact nomark _) :
    PE X (.Compare a [.NotEq] [b] pos) (upE B (d2 (rdNeOwn C sd Ed) ta tb)) := pe_imp (pe_cmpR (op_neOwn F hr hx hmr hne) ha hb hm) (up_neOwn le)
theorem vt_neOwn (le : LE B Ed E) (F : EqF X.prog X.w X.K X.mg X.base n C ps (lift sd)) (hr : Room (n + 1) X.A) (hx : Passes (L2.CX X.prog X.w) X E) (hmr : PySem.W.mroIn X.K C (.type "object") = some true) (hne : PySem.W.findIn X.K (.ref C) "__ne__" = some (some (.builtin "object.__ne__")))
    (ha : PE X a (upE B ta)) (hb : PE X b (upE B tb)) (hm : behindInMarks .NotEq b = false := by exact nomark _) :
    PT X (.Compare a [.NotEq] [b] pos) (upT B (dTest (d2 (rdNeOwn C sd Ed) ta tb))) := pt_imp (pt_cmpR (op_neOwn F hr hx hmr hne) ha hb hm) (test_of (up_neOwn le))
end
/-- isinstance(x, own), x own or plain data of a kind in T -/
def rdIsiO (C : Addr) (T : List String) : RCd := fun ws δ Q => ∃ w, ws = [w, .dat (.con (.ref C))] ∧ ((∃ ns ds, Pk δ.own w (.ins C ns ds) ∧ Q (.dat (.bl true)) δ) ∨ ∃ d, Pk δ.own w d ∧ noCon d = true ∧ tyN d ∈ T ∧ Q (.dat (.bl false)) δ)
theorem up_isiO {K : PySem.W.Frag} {C : Addr} {T : List String} (c : ClsIs K C) (no : ∀ t ∈ T, PySem.W.kitOne K (.type t) (.ref C) = some false) : UpC (rIsi K) (rdIsiO C T) := by
  rintro B O σ H δ vs ws Qd Q R rs ⟨w, rfl, p⟩ L
  obtain ⟨v, x, rfl, r1, r2⟩ := rs.two
  cases r2
  rcases p with ⟨ns, ds, p, q⟩ | ⟨d, p, nc, ht, q⟩
  · obtain ⟨a, dx, xs, rfl, e, _⟩ := pk_vw R.st r1 p
    exact ⟨.ref a, _, _, _, _, rfl, .own C, .base (.ins e c.cl c.ha c.hn c.ht c.hm), c.ko, L _ δ O _ H q .refl R (.bl _)⟩
  · exact ⟨v, _, _, _, _, rfl, .own C, (pk_vw R.st r1 p).ty nc, no _ ht, L _ δ O _ H q .refl R (.bl _)⟩
/-- Rules.__eq__ -/
def sdEqA (C : Addr) : SpD := fun ws S Q _ => ∃ (w u : W) (bs : List Int), ws = [w, u] ∧ Pk S w (.ins C bodyNs (bodyDs bs)) ∧ ((∃ cs, Pk S u (.ins C bodyNs (bodyDs cs)) ∧ Q (.dat (.bl (decide (bs = cs)))) S) ∨ ∃ d, Pk S u d ∧ noCon d = true ∧ tyN d ∈ ["tuple", "int"] ∧ Q (.dat (.bl false)) S)
end Va

set_option maxRecDepth 100000
set_option maxHeartbeats 2000000
namespace Va
open PySem PySem.Spec PyProof.Rows L2 Fd

/-! ### the text of rules tells the rules -/
def tx (s : PySem.Str) : List Nat := s.cps.toList
theorem tx_app (a b : PySem.Str) : tx (a ++ b) = tx a ++ tx b := by
  show (a.cps ++ b.cps).toList = _
  rw [Array.toList_append]
  rfl
def tl : List (List Nat) → List Nat
  | [] => []
  | t :: r => 44 :: 32 :: (t ++ tl r)
def bd : List (List Nat) → List Nat
  | [] => []
  | t :: r => t ++ tl r
theorem tx_sep : tx (Str.ofString ", ") = [44, 32] := by decide +kernel
theorem tx_join : ∀ ts : List PySem.Str, tx (Str.join ", " ts) = bd (ts.map tx)
  | [] => rfl
  | [t] => by
    show tx t = tx t ++ []
    rw [List.append_nil]
  | t :: u :: r => by
    show tx (t ++ Str.ofString ", " ++ Str.join ", " (u :: r)) = tx t ++ (44 :: 32 :: (bd ((u :: r).map tx)))
    rw [tx_app, tx_app, tx_sep, tx_join (u :: r), List.append_assoc]
    rfl
theorem tx_tuple (ts : List PySem.Str) : tx (tupleText ts) = 40 :: (bd (ts.map tx) ++ (if ts.length = 1 then [44, 41] else [41])) := by
  unfold tupleText
  rw [tx_app, tx_app, tx_join]
  have e1 : tx (Str.ofString "(") = [40] := by decide +kernel
  have e2 : tx (Str.ofString (if ts.length == 1 then ",)" else ")" : String)) = if ts.length = 1 then [44, 41] else [41] := by
    by_cases h : ts.length = 1
    · rw [if_pos h, if_pos (by simp [h])]
      decide +kernel
    · rw [if_neg h, if_neg (by simp [h])]
      decide +kernel
  rw [e1, e2, List.append_assoc]
  rfl
theorem tx_from : ∀ (ts : List PySem.Str) (k : Nat) (acc : PySem.Str), tx (textFrom (k + 1) acc ts) = tx acc ++ tl (ts.map tx)
  | [], k, acc => by
    show tx acc = tx acc ++ []
    rw [List.append_nil]
  | t :: r, k, acc => by
    show tx (textFrom (k + 1 + 1) (acc ++ Str.ofString (if k + 1 > 0 then ", " else "") ++ t) r) = _
    rw [tx_from r (k + 1), if_pos (Nat.succ_pos k), tx_app, tx_app, tx_sep, List.append_assoc, List.append_assoc]
    rfl
theorem tx_list (ts : List PySem.Str) : tx (listText ts) = 91 :: (bd (ts.map tx) ++ [93]) := by
  unfold listText
  rw [tx_app]
  have e1 : tx (Str.ofString "]") = [93] := by decide +kernel
  have e2 : tx (textFrom 0 (Str.ofString "[") ts) = 91 :: bd (ts.map tx) := by
    cases ts with
    | nil => decide +kernel
    | cons t r =>
      show tx (textFrom 1 (Str.ofString "[" ++ Str.ofString (if 0 > 0 then ", " else "") ++ t) r) = _
      rw [tx_from r 0, tx_app, tx_app, if_neg (by decide)]
      have e3 : tx (Str.ofString "[") = [91] := by decide +kernel
      have e4 : tx (Str.ofString "") = [] := by decide +kernel
      rw [e3, e4]
      rfl
  rw [e1, e2]
  rfl
/-- behind a thing: nothing, or a comma, or a closing sign -/
def Dl (x : List Nat) : Prop := x = [] ∨ ∃ r, x = 44 :: r ∨ x = 41 :: r ∨ x = 93 :: r
def Cl (x : List Nat) : Prop := ∃ r, x = 41 :: r ∨ x = 93 :: r ∨ x = 44 :: 41 :: r
def Inj {α : Type} (f : α → List Nat) (ok : α → Prop) : Prop := ∀ a b x y, ok a → ok b → Dl x → Dl y → f a ++ x = f b ++ y → a = b ∧ x = y
def Hd {α : Type} (f : α → List Nat) (ok : α → Prop) : Prop := ∀ a, ok a → ∃ c r, f a = c :: r ∧ c ≠ 41 ∧ c ≠ 93 ∧ c ≠ 44
theorem Cl.dl {x : List Nat} (h : Cl x) : Dl x := by
  obtain ⟨r, rfl | rfl | rfl⟩ := h
  · exact .inr ⟨r, .inr (.inl rfl)⟩
  · exact .inr ⟨r, .inr (.inr rfl)⟩
  · exact .inr ⟨_, .inl rfl⟩
theorem tl_dl {ts : List (List Nat)} {x : List Nat} (h : Cl x) : Dl (tl ts ++ x) := by
  cases ts with
  | nil => exact h.dl
  | cons t r => exact .inr ⟨_, .inl rfl⟩
theorem tl_inj {α : Type} {f : α → List Nat} {ok : α → Prop} (hf : Inj f ok) : ∀ (as bs : List α) (x y : List Nat), (∀ a ∈ as, ok a) → (∀ b ∈ bs, ok b) → Cl x → Cl y → tl (as.map f) ++ x = tl (bs.map f) ++ y → as = bs ∧ x = y
  | [], [], x, y, _, _, _, _, e => ⟨rfl, e⟩
  | [], b :: bs, x, y, _, _, hx, _, e => by
    obtain ⟨r, rfl | rfl | rfl⟩ := hx <;> simp [tl] at e
  | a :: as, [], x, y, _, _, _, hy, e => by
    obtain ⟨r, rfl | rfl | rfl⟩ := hy <;> simp [tl] at e
  | a :: as, b :: bs, x, y, ha, hb, hx, hy, e => by
    have e : f a ++ (tl (as.map f) ++ x) = f b ++ (tl (bs.map f) ++ y) := by
      simpa [tl] using e
    obtain ⟨rfl, e2⟩ := hf a b _ _ (ha a List.mem_cons_self) (hb b List.mem_cons_self) (tl_dl hx) (tl_dl hy) e
    obtain ⟨rfl, e3⟩ := tl_inj hf as bs x y (fun z hz => ha z (List.mem_cons_of_mem _ hz)) (fun z hz => hb z (List.mem_cons_of_mem _ hz)) hx hy e2
    exact ⟨rfl, e3⟩
theorem bd_inj {α : Type} {f : α → List Nat} {ok : α → Prop} (hf : Inj f ok) (hd : Hd f ok) (as bs : List α) (x y : List Nat) (ha : ∀ a ∈ as, ok a) (hb : ∀ b ∈ bs, ok b) (hx : Cl x) (hy : Cl y) (e : bd (as.map f) ++ x = bd (bs.map f) ++ y) : as = bs ∧ x = y := by
  cases as with
  | nil =>
    cases bs with
    | nil => exact ⟨rfl, e⟩
    | cons b bs =>
      obtain ⟨c, r, ec, n1, n2, n3⟩ := hd b (hb b List.mem_cons_self)
      obtain ⟨q, rfl | rfl | rfl⟩ := hx <;> (simp [bd, ec] at e; omega)
  | cons a as =>
    cases bs with
    | nil =>
      obtain ⟨c, r, ec, n1, n2, n3⟩ := hd a (ha a List.mem_cons_self)
      obtain ⟨q, rfl | rfl | rfl⟩ := hy <;> (simp [bd, ec] at e; omega)
    | cons b bs =>
      have e : f a ++ (tl (as.map f) ++ x) = f b ++ (tl (bs.map f) ++ y) := by
        simpa [bd] using e
      obtain ⟨rfl, e2⟩ := hf a b _ _ (ha a List.mem_cons_self) (hb b List.mem_cons_self) (tl_dl hx) (tl_dl hy) e
      obtain ⟨rfl, e3⟩ := tl_inj hf as bs x y (fun z hz => ha z (List.mem_cons_of_mem _ hz)) (fun z hz => hb z (List.mem_cons_of_mem _ hz)) hx hy e2
      exact ⟨rfl, e3⟩
def tT {α : Type} (f : α → List Nat) (as : List α) : List Nat := 40 :: (bd (as.map f) ++ (if as.length = 1 then [44, 41] else [41]))
theorem tT_cl {n : Nat} {x : List Nat} : Cl ((if n = 1 then [44, 41] else [41]) ++ x) := by
  by_cases h : n = 1
  · rw [if_pos h]
    exact ⟨x, .inr (.inr rfl)⟩
  · rw [if_neg h]
    exact ⟨x, .inl rfl⟩
theorem tT_inj {α : Type} {f : α → List Nat} {ok : α → Prop} (hf : Inj f ok) (hd : Hd f ok) : Inj (tT f) (fun as => ∀ a ∈ as, ok a) := fun as bs x y ha hb hx hy e => by
  have e : bd (as.map f) ++ ((if as.length = 1 then [44, 41] else [41]) ++ x) = bd (bs.map f) ++ ((if bs.length = 1 then [44, 41] else [41]) ++ y) := by
    simpa [tT] using e
  obtain ⟨rfl, e2⟩ := bd_inj hf hd as bs _ _ ha hb tT_cl tT_cl e
  exact ⟨rfl, List.append_cancel_left e2⟩
/-- two digits at most -/
def dg (i : Int) : List Nat := if i.toNat < 10 then [48 + i.toNat] else [48 + i.toNat / 10, 48 + i.toNat % 10]
def OkS (i : Int) : Prop := 0 ≤ i ∧ i < 100
theorem tx_int {i : Int} (h : OkS i) : tx (PyData.shown (.int i)) = dg i := by
  have all : ∀ n : Fin 100, tx (PyData.shown (.int (n.val : Int))) = dg (n.val : Int) := by decide +kernel
  obtain ⟨n, rfl⟩ := Int.eq_ofNat_of_zero_le h.1
  exact all ⟨n, by have := h.2; omega⟩
theorem dl_ne {c : Nat} {r : List Nat} (h : Dl (c :: r)) : c = 44 ∨ c = 41 ∨ c = 93 := by
  rcases h with h | ⟨q, h | h | h⟩
  · cases h
  · cases h; exact .inl rfl
  · cases h; exact .inr (.inl rfl)
  · cases h; exact .inr (.inr rfl)
theorem dg_inj : Inj dg OkS := fun a b x y ha hb hx hy e => by
  obtain ⟨n, rfl⟩ := Int.eq_ofNat_of_zero_le ha.1
  obtain ⟨m, rfl⟩ := Int.eq_ofNat_of_zero_le hb.1
  have hn : n < 100 := by have := ha.2; omega
  have hm : m < 100 := by have := hb.2; omega
  unfold dg at e
  rw [Int.toNat_natCast, Int.toNat_natCast] at e
  by_cases c1 : n < 10
  · rw [if_pos c1] at e
    by_cases c2 : m < 10
    · rw [if_pos c2] at e
      simp at e
      exact ⟨by omega, e.2⟩
    · rw [if_neg c2] at e
      simp at e
      obtain ⟨_, rfl⟩ := e
      have := dl_ne hx
      omega
  · rw [if_neg c1] at e
    by_cases c2 : m < 10
    · rw [if_pos c2] at e
      simp at e
      obtain ⟨_, rfl⟩ := e
      have := dl_ne hy
      omega
    · rw [if_neg c2] at e
      simp at e
      exact ⟨by omega, e.2.2⟩
theorem dg_hd : Hd dg OkS := fun a ha => by
  obtain ⟨n, rfl⟩ := Int.eq_ofNat_of_zero_le ha.1
  have hn : n < 100 := by have := ha.2; omega
  unfold dg
  rw [Int.toNat_natCast]
  by_cases c1 : n < 10
  · rw [if_pos c1]
    exact ⟨_, _, rfl, by omega, by omega, by omega⟩
  · rw [if_neg c1]
    exact ⟨_, _, rfl, by omega, by omega, by omega⟩
theorem tx_tupD (ds : List PyData) : tx (PyData.shown (.tuple ds)) = 40 :: (bd (ds.map fun d => tx (PyData.shown d)) ++ (if ds.length = 1 then [44, 41] else [41])) := by
  rw [PyData.shown, tx_tuple, shownAll_map, List.map_map, List.length_map]
  rfl
theorem tx_ints {xs : List Int} (h : Sgn xs) : tx (PyData.shown (.tuple (xs.map PyData.int))) = tT dg xs := by
  rw [tx_tupD, List.map_map, List.length_map]
  have e : xs.map ((fun d => tx (PyData.shown d)) ∘ PyData.int) = xs.map dg := List.map_congr_left fun i hi => tx_int (h i hi)
  rw [e]
  rfl
def tI : Itm → List Nat
  | .put xs => 40 :: ([39, 112, 117, 116, 39] ++ (44 :: 32 :: (tT dg xs ++ [41])))
  | .plus k => 40 :: ([39, 112, 108, 117, 115, 39] ++ (44 :: 32 :: (dg k ++ [41])))
  | .own j k => 40 :: ([39, 111, 119, 110, 39] ++ (44 :: 32 :: (dg j ++ (44 :: 32 :: (dg k ++ [41])))))
theorem tx_put : tx (PyData.shown (.str "put")) = [39, 112, 117, 116, 39] := by rw [PyData.shown]; decide +kernel
theorem tx_plus : tx (PyData.shown (.str "plus")) = [39, 112, 108, 117, 115, 39] := by rw [PyData.shown]; decide +kernel
theorem tx_own : tx (PyData.shown (.str "own")) = [39, 111, 119, 110, 39] := by rw [PyData.shown]; decide +kernel
theorem tx_oth : tx (PyData.shown (.str "other")) = [39, 111, 116, 104, 101, 114, 39] := by rw [PyData.shown]; decide +kernel
theorem tx_end : tx (PyData.shown (.str "end")) = [39, 101, 110, 100, 39] := by rw [PyData.shown]; decide +kernel
theorem tx_non : tx (PyData.shown .none) = [78, 111, 110, 101] := by rw [PyData.shown]; decide +kernel
theorem tx_it {i : Itm} (h : ItOk i) : tx (PyData.shown i.d) = tI i := by
  cases i with
  | put xs =>
    show tx (PyData.shown (.tuple [.str "put", .tuple (xs.map PyData.int)])) = _
    rw [tx_tupD]
    simp [bd, tl, tx_put, tx_ints h.1, tI]
  | plus k =>
    show tx (PyData.shown (.tuple [.str "plus", .int k])) = _
    rw [tx_tupD]
    simp [bd, tl, tx_plus, tx_int (show OkS k from h), tI]
  | own j k =>
    show tx (PyData.shown (.tuple [.str "own", .int j, .int k])) = _
    rw [tx_tupD]
    simp [bd, tl, tx_own, tx_int (show OkS j from h.1), tx_int (show OkS k from h.2), tI]
theorem dl41 {x : List Nat} : Dl (41 :: x) := .inr ⟨x, .inr (.inl rfl)⟩
theorem dl44 {x : List Nat} : Dl (44 :: x) := .inr ⟨x, .inl rfl⟩
theorem tI_inj : Inj tI ItOk := fun a b x y ha hb hx hy e => by
  cases a with
  | put xs =>
    cases b with
    | put ys =>
      have e : tT dg xs ++ (41 :: x) = tT dg ys ++ (41 :: y) := by simpa [tI] using e
      obtain ⟨rfl, e2⟩ := tT_inj dg_inj dg_hd xs ys _ _ (fun z hz => ha.1 z hz) (fun z hz => hb.1 z hz) dl41 dl41 e
      exact ⟨rfl, by simpa using e2⟩
    | plus k => simp [tI] at e
    | own j k => simp [tI] at e
  | plus k =>
    cases b with
    | put ys => simp [tI] at e
    | plus m =>
      have e : dg k ++ (41 :: x) = dg m ++ (41 :: y) := by simpa [tI] using e
      obtain ⟨rfl, e2⟩ := dg_inj k m _ _ ha hb dl41 dl41 e
      exact ⟨rfl, by simpa using e2⟩
    | own j m => simp [tI] at e
  | own j k =>
    cases b with
    | put ys => simp [tI] at e
    | plus m => simp [tI] at e
    | own l m =>
      have e : dg j ++ (44 :: 32 :: (dg k ++ (41 :: x))) = dg l ++ (44 :: 32 :: (dg m ++ (41 :: y))) := by simpa [tI] using e
      obtain ⟨rfl, e2⟩ := dg_inj j l _ _ ha.1 hb.1 dl44 dl44 e
      have e2 : dg k ++ (41 :: x) = dg m ++ (41 :: y) := by simpa using e2
      obtain ⟨rfl, e3⟩ := dg_inj k m _ _ ha.2 hb.2 dl41 dl41 e2
      exact ⟨rfl, by simpa using e3⟩
theorem tI_hd : Hd tI ItOk := fun a _ => by cases a <;> exact ⟨40, _, rfl, by decide, by decide, by decide⟩
def tW : Wd → List Nat
  | .sign s => dg s
  | .other => [39, 111, 116, 104, 101, 114, 39]
  | .fin => [39, 101, 110, 100, 39]
def tN : Option Int → List Nat
  | none => [78, 111, 110, 101]
  | some n => dg n
def OkN : Option Int → Prop
  | none => True
  | some n => OkS n
theorem dg_first {i : Int} (h : OkS i) : ∃ c r, dg i = c :: r ∧ 48 ≤ c ∧ c ≤ 57 := by
  obtain ⟨n, rfl⟩ := Int.eq_ofNat_of_zero_le h.1
  have hn : n < 100 := by have := h.2; omega
  unfold dg
  rw [Int.toNat_natCast]
  by_cases c1 : n < 10
  · rw [if_pos c1]
    exact ⟨_, _, rfl, by omega, by omega⟩
  · rw [if_neg c1]
    exact ⟨_, _, rfl, by omega, by omega⟩
theorem tW_inj : Inj tW WdOk := fun a b x y ha hb hx hy e => by
  cases a with
  | sign s =>
    obtain ⟨c, r, ec, c1, c2⟩ := dg_first (show OkS s from ha)
    cases b with
    | sign t =>
      obtain ⟨rfl, e2⟩ := dg_inj s t _ _ ha hb hx hy e
      exact ⟨rfl, e2⟩
    | other => simp [tW, ec] at e; omega
    | fin => simp [tW, ec] at e; omega
  | other =>
    cases b with
    | sign t =>
      obtain ⟨c, r, ec, c1, c2⟩ := dg_first (show OkS t from hb)
      simp [tW, ec] at e; omega
    | other => exact ⟨rfl, by simpa [tW] using e⟩
    | fin => simp [tW] at e
  | fin =>
    cases b with
    | sign t =>
      obtain ⟨c, r, ec, c1, c2⟩ := dg_first (show OkS t from hb)
      simp [tW, ec] at e; omega
    | other => simp [tW] at e
    | fin => exact ⟨rfl, by simpa [tW] using e⟩
theorem tN_inj : Inj tN OkN := fun a b x y ha hb hx hy e => by
  cases a with
  | some s =>
    obtain ⟨c, r, ec, c1, c2⟩ := dg_first (show OkS s from ha)
    cases b with
    | some t =>
      obtain ⟨rfl, e2⟩ := dg_inj s t _ _ ha hb hx hy e
      exact ⟨rfl, e2⟩
    | none => simp [tN, ec] at e; omega
  | none =>
    cases b with
    | some t =>
      obtain ⟨c, r, ec, c1, c2⟩ := dg_first (show OkS t from hb)
      simp [tN, ec] at e; omega
    | none => exact ⟨rfl, by simpa [tN] using e⟩
def tR (r : Ru) : List Nat := 40 :: (dg r.stand ++ (44 :: 32 :: (tW r.word ++ (44 :: 32 :: (tT tI r.items ++ (44 :: 32 :: (tN r.next ++ [41])))))))
theorem RuOk.nxt {r : Ru} (h : RuOk r) : OkN r.next := by
  obtain ⟨s, wd, its, nx⟩ := r
  have z := h.nx
  cases nx with
  | none => trivial
  | some n =>
    cases wd with
    | fin => exact z.elim
    | other => exact z
    | sign _ => exact z
theorem tx_ru {r : Ru} (h : RuOk r) : tx (PyData.shown r.d) = tR r := by
  have hn := h.nxt
  obtain ⟨s, wd, its, nx⟩ := r
  have e1 : tx (PyData.shown (.int s)) = dg s := tx_int h.st
  have e2 : tx (PyData.shown wd.d) = tW wd := by
    cases wd with
    | sign x => exact tx_int h.wd
    | other => exact tx_oth
    | fin => exact tx_end
  have e3 : tx (PyData.shown (.tuple (its.map Itm.d))) = tT tI its := by
    rw [tx_tupD, List.map_map, List.length_map]
    have e : its.map ((fun d => tx (PyData.shown d)) ∘ Itm.d) = its.map tI := List.map_congr_left fun i hi => tx_it (h.its i hi)
    rw [e]
    rfl
  have e4 : tx (PyData.shown (nextD nx)) = tN nx := by
    cases nx with
    | none => exact tx_non
    | some n => exact tx_int hn
  show tx (PyData.shown (.tuple [.int s, wd.d, .tuple (its.map Itm.d), nextD nx])) = _
  rw [tx_tupD]
  simp [bd, tl, e1, e2, e3, e4, tR]
theorem tR_inj : Inj tR RuOk := fun a b x y ha hb hx hy e => by
  have na := ha.nxt
  have nb := hb.nxt
  obtain ⟨s, wd, its, nx⟩ := a
  obtain ⟨s', wd', its', nx'⟩ := b
  have e : dg s ++ (44 :: 32 :: (tW wd ++ (44 :: 32 :: (tT tI its ++ (44 :: 32 :: (tN nx ++ (41 :: x))))))) = dg s' ++ (44 :: 32 :: (tW wd' ++ (44 :: 32 :: (tT tI its' ++ (44 :: 32 :: (tN nx' ++ (41 :: y))))))) := by simpa [tR] using e
  obtain ⟨rfl, e2⟩ := dg_inj s s' _ _ ha.st hb.st dl44 dl44 e
  obtain ⟨rfl, e3⟩ := tW_inj wd wd' _ _ ha.wd hb.wd dl44 dl44 (List.cons.inj (List.cons.inj e2).2).2
  obtain ⟨rfl, e4⟩ := tT_inj tI_inj tI_hd its its' _ _ ha.its hb.its dl44 dl44 (List.cons.inj (List.cons.inj e3).2).2
  obtain ⟨rfl, e5⟩ := tN_inj nx nx' _ _ na nb dl41 dl41 (List.cons.inj (List.cons.inj e4).2).2
  exact ⟨rfl, (List.cons.inj e5).2⟩
theorem tR_hd : Hd tR RuOk := fun a _ => ⟨40, _, rfl, by decide, by decide, by decide⟩
/-- the same text, the same rules -/
theorem rus_text {rs us : List Ru} (hr : RusOk rs) (hu : RusOk us) (e : (py (.lst (rusV rs))).shown = (py (.lst (rusV us))).shown) : rs = us := by
  have z : ∀ {l : List Ru}, RusOk l → tx (py (.lst (rusV l))).shown = 91 :: (bd (l.map tR) ++ [93]) := fun {l} hl => by
    unfold rusV
    rw [py, pys_map Ru.v Ru.d py_ru, PyData.shown, tx_list, shownAll_map, List.map_map, List.map_map]
    have e : l.map (tx ∘ PyData.shown ∘ Ru.d) = l.map tR := List.map_congr_left fun i hi => tx_ru (hl i hi)
    rw [← e]
    rfl
  have e2 : bd (rs.map tR) ++ [93] = bd (us.map tR) ++ [93] := by
    have y := congrArg tx e
    rw [z hr, z hu] at y
    injection y
  exact (bd_inj tR_inj tR_hd rs us _ _ hr hu ⟨[], .inr (.inl rfl)⟩ ⟨[], .inr (.inl rfl)⟩ e2).1
/-- the row of a body tells its start and its rules -/
theorem bodyI_inj {s t : Int} {rs us : List Ru} (hr : RusOk rs) (hu : RusOk us) (e : bodyI s rs = bodyI t us) : s = t ∧ rs = us := by
  have z := rulesOf_body (s := s) hr
  have y := rulesOf_body (s := t) hu
  rw [e, y] at z
  refine ⟨?_, (congrArg Prod.fst z).symm⟩
  unfold bodyI at e
  injection e
end Va

set_option maxRecDepth 100000
set_option maxHeartbeats 2000000
namespace Va
open PySem PySem.Spec PyProof.Rows L2 Fd

/-! ### a tail that is no rule -/
theorem itemOf_ext {p q r : List Int} {i : Itm} (h : itemOf p = some (i, r)) : itemOf (p ++ q) = some (i, r ++ q) := by
  unfold itemOf at h
  split at h
  · rename_i n r0
    split at h
    · rename_i hn
      cases h
      show (if n.toNat ≤ (r0 ++ q).length then some (Itm.put ((r0 ++ q).take n.toNat), (r0 ++ q).drop n.toNat) else none) = _
      rw [if_pos (by rw [List.length_append]; omega), List.take_append_of_le_length hn, List.drop_append_of_le_length hn]
    · cases h
  · cases h
    rfl
  · cases h
    rfl
  · cases h
theorem itemsOf_ext {q : List Int} : ∀ {n : Nat} {p r : List Int} {is : List Itm}, itemsOf n p = some (is, r) → itemsOf n (p ++ q) = some (is, r ++ q)
  | 0, p, r, is, h => by
    cases h
    rfl
  | n + 1, p, r, is, h => by
    unfold itemsOf at h
    cases e : itemOf p with
    | none => rw [e] at h; cases h
    | some x =>
      rw [e] at h
      cases e2 : itemsOf n x.2 with
      | none => rw [Option.bind_some, e2] at h; cases h
      | some y =>
        rw [Option.bind_some, e2] at h
        cases h
        rw [itemsOf_step (itemOf_ext (q := q) e), itemsOf_ext e2]
        rfl
theorem wordOf_ext {p q r : List Int} {w : Wd} (h : wordOf p = some (w, r)) : wordOf (p ++ q) = some (w, r ++ q) := by
  unfold wordOf at h
  split at h
  · cases h
    rfl
  · cases h
    rfl
  · cases h
    rfl
  · cases h
theorem ruleOf_ext {p q r : List Int} {u : Ru} (h : ruleOf p = some (u, r)) : ruleOf (p ++ q) = some (u, r ++ q) := by
  cases p with
  | nil => cases h
  | cons s p =>
  have h : (wordOf p).bind (fun z => (itemsAt z.2).bind fun y => ruleEnd s z.1 y.1 y.2) = some (u, r) := h
  obtain ⟨⟨w, r2⟩, e1, h⟩ := Option.bind_eq_some_iff.mp h
  obtain ⟨⟨its, r3⟩, e2, h⟩ := Option.bind_eq_some_iff.mp h
  have e3 : itemsAt (r2 ++ q) = some (its, r3 ++ q) := by
    cases r2 with
    | nil => cases e2
    | cons n r2 => exact itemsOf_ext (n := n.toNat) e2
  show (wordOf (p ++ q)).bind (fun z => (itemsAt z.2).bind fun y => ruleEnd s z.1 y.1 y.2) = _
  rw [wordOf_ext e1]
  show (itemsAt (r2 ++ q)).bind (fun y => ruleEnd s w y.1 y.2) = _
  rw [e3]
  show ruleEnd s w its (r3 ++ q) = _
  cases w with
  | fin => cases h; rfl
  | other =>
    cases r3 with
    | nil => cases h
    | cons f r4 => cases h; rfl
  | sign x =>
    cases r3 with
    | nil => cases h
    | cons f r4 => cases h; rfl
/-- less than a rule is none -/
theorem ruleOf_cut {r : Ru} (h : RuOk r) {m : Nat} (hm : m < (ruI r).length) : ruleOf ((ruI r).take m) = none := by
  cases e : ruleOf ((ruI r).take m) with
  | none => rfl
  | some p =>
    obtain ⟨u, x⟩ := p
    have z := ruleOf_ext (q := (ruI r).drop m) e
    rw [List.take_append_drop] at z
    have y := ruleOf_put (t := []) h
    rw [List.append_nil, z] at y
    have l := congrArg (fun o => o.map fun p : Ru × List Int => p.2.length) y
    simp at l
    omega
structure TailOk (t : List Int) : Prop where
  s : Sgn t
  n : ruleOf t = none
  l : t.length ≤ 20000
theorem tail_nil : TailOk [] := ⟨(fun _ h => nomatch h), rfl, Nat.zero_le _⟩
theorem tail_odd {s k : Int} {r : List Int} (hs : 0 ≤ s ∧ s < 100) (hk : 3 ≤ k ∧ k < 100) (hr : Sgn r) (l : r.length ≤ 10) : TailOk (s :: k :: r) := by
  refine ⟨Sgn.cons hs.1 hs.2 (Sgn.cons (by omega) hk.2 hr), ?_, by simp; omega⟩
  show (wordOf (k :: r)).bind (fun p => (itemsAt p.2).bind fun q => ruleEnd s p.1 q.1 q.2) = none
  rw [wordOf_else (by omega) (by omega) (fun z => by omega)]
  rfl
theorem tail_cut {r : Ru} (h : RuOk r) {m : Nat} (hm : m < (ruI r).length) : TailOk ((ruI r).take m) :=
  ⟨fun z hz => ruI_sgn h z (List.mem_of_mem_take hz), ruleOf_cut h hm, by have := ruI_len h; rw [List.length_take]; omega⟩
theorem rulesOf_tail {t : List Int} (ht : ruleOf t = none) : ∀ {n : Nat} {rs : List Ru}, RusOk rs → rs.length ≤ n → rulesOf n (rusI rs ++ t) = (rs, t)
  | 0, [], _, _ => rfl
  | n + 1, [], _, _ => rulesOf_stop ht
  | 0, r :: rs, _, l => absurd l (by simp)
  | n + 1, r :: rs, h, l => by
    show rulesOf (n + 1) ((ruI r ++ rusI rs) ++ t) = _
    rw [List.append_assoc, rulesOf_step (ruleOf_put (h r List.mem_cons_self)), rulesOf_tail ht (fun x hx => h x (List.mem_cons_of_mem _ hx)) (by simpa using l)]
theorem rulesOf_bodyT {s : Int} {rs : List Ru} {t : List Int} (h : RusOk rs) (ht : ruleOf t = none) : rulesOf (bodyI s rs ++ t).length ((bodyI s rs ++ t).drop 1) = (rs, t) :=
  rulesOf_tail ht h (by
    have z := rusI_len1 (rs := rs)
    show rs.length ≤ (s :: rusI rs ++ t).length
    rw [List.length_append, List.length_cons]
    omega)
def sdTail : SpD := fun ws S Q _ => ∃ t, ws = [.own t] ∧ TapeIn S t ∧ sdT t S iv TailOk Q
def sdTurned : SpD := fun ws S Q _ => ∃ (t : Nat) (rs : List Ru), ws = [.own t, .dat (.lst (rusV rs))] ∧ RusOk rs ∧ rs.length ≤ 100 ∧ TapeIn S t ∧ sdL t S rusV (fun us => RusOk us ∧ us.length ≤ rs.length + 1) Q
def sdWell : SpD := fun ws S Q _ => ∃ (s : Int) (rs : List Ru) (t : List Int), ws = [.dat (.int s), .dat (.lst (rusV rs)), .dat (iv t)] ∧ (0 ≤ s ∧ s < 100) ∧ RusOk rs ∧ rs.length ≤ 20 ∧ TailOk t ∧ Q (.dat (.bl true)) S
theorem made1 {S : Own} {x y : Option Ob} : ((S ++ [x]).set S.length y)[S.length]? = some y := set_get push_get
theorem made_len {S : Own} {x y : Option Ob} : ((S ++ [x]).set S.length y).length = S.length + 1 := by rw [List.length_set, List.length_append]; rfl
theorem cutD_to (l : List D) (j : Nat) : cutD l none (some (j : Int)) = l.take j := by
  unfold cutD
  rw [HT.sIx_nat, HT.sIx_none, Nat.sub_zero]
  show l.take _ = _
  by_cases h : j ≤ l.length
  · rw [Nat.min_eq_left h]
  · rw [Nat.min_eq_right (show l.length ≤ j by omega), List.take_length, List.take_of_length_le (show l.length ≤ j by omega)]
theorem cutD_from (l : List D) (i : Nat) : cutD l (some (i : Int)) none = l.drop i := by
  unfold cutD
  rw [HT.sIx_nat, HT.sIx_none, drop_min]
  apply List.take_of_length_le
  rw [List.length_drop]
  omega
theorem rusV_take (rs : List Ru) (n : Nat) : (rusV rs).take n = rusV (rs.take n) := (List.map_take ..).symm
theorem rusV_drop (rs : List Ru) (n : Nat) : (rusV rs).drop n = rusV (rs.drop n) := (List.map_drop ..).symm
theorem rusV_app (a b : List Ru) : rusV a ++ rusV b = rusV (a ++ b) := (List.map_append ..).symm
theorem rusOk_take {rs : List Ru} (h : RusOk rs) (n : Nat) : RusOk (rs.take n) := fun r hr => h r (List.mem_of_mem_take hr)
theorem rusOk_drop {rs : List Ru} (h : RusOk rs) (n : Nat) : RusOk (rs.drop n) := fun r hr => h r (List.mem_of_mem_drop hr)
theorem rusOk_app {a b : List Ru} (h : RusOk a) (k : RusOk b) : RusOk (a ++ b) := fun r hr => (List.mem_append.mp hr).elim (h r) (k r)
theorem rusOk_one {r : Ru} (h : RuOk r) : RusOk [r] := fun x hx => by rw [List.mem_singleton.mp hx]; exact h
end Va

set_option maxRecDepth 100000
set_option maxHeartbeats 2000000
namespace Va
open PySem PySem.Spec PyProof.Rows L2 Fd

/-! ### texts -/
abbrev RMd := W → List W → DS → (W → DS → Prop) → Prop
def UpM (r : V → List V → Hp → VK → Prop) (rd : RMd) : Prop := ∀ (B : Base) (O : List Addr) (σ : L2.St) (H : Hp) (δ : DS) (x : V) (vs : List V) (w : W) (ws : List W) (Qd : W → DS → Prop) (Q : VK),
  Rel B O σ H δ → WR O δ.own H x w → WRs O δ.own H vs ws → rd w ws δ Qd → Lk B O σ H δ Qd Q → r x vs H Q
def dM0 (rd : RMd) (to : DE) : DE := fun δ Q => to δ fun w δ1 => (∃ a, w = .dat (.str a)) ∧ rd w [] δ1 Q
def dM1 (rd : RMd) (to te : DE) : DE := fun δ Q => to δ fun w δ1 => (∃ a, w = .dat (.str a)) ∧ te δ1 fun u δ2 => rd w [u] δ2 Q
section
variable {X : Cx} {B : Base} {e : Expr} {r : V → List V → Hp → VK → Prop} {rd : RMd} {to te : DE}
theorem v_m0 (up : UpM r rd) (h : PE X e (tM0 r (upE B to))) : PE X e (upE B (dM0 rd to)) := pe_imp h fun σ H Q ⟨O, δ, Qd, R, h, L⟩ =>
  ⟨O, δ, _, R, h, fun w δ1 O1 v H1 ⟨⟨a, ew⟩, q⟩ e1 R1 r1 => by
    subst ew
    cases r1
    exact ⟨⟨a, rfl⟩, up B O1 σ H1 δ1 _ [] (.dat (.str a)) [] Qd Q R1 (.str a) .nil q (L.ext e1)⟩⟩
theorem v_m1 (up : UpM r rd) (h : PE X e (tM1 r (upE B to) (upE B te))) : PE X e (upE B (dM1 rd to te)) := pe_imp h fun σ H Q ⟨O, δ, Qd, R, h, L⟩ =>
  ⟨O, δ, _, R, h, fun w δ1 O1 v H1 ⟨⟨a, ew⟩, q⟩ e1 R1 r1 => by
    subst ew
    cases r1
    exact ⟨⟨a, rfl⟩, O1, δ1, _, R1, q, fun u δ2 O2 y H2 q2 e2 R2 r2 => up B O2 σ H2 δ2 _ [y] (.dat (.str a)) [u] Qd Q R2 (.str a) (.cons r2 .nil) q2 (L.ext (e1.trans e2))⟩⟩
end
theorem DvAll.strs {P : FP} : ∀ ys : List Str, DvAll P (ys.map V.str) (ys.map D.str)
  | [] => .nil
  | y :: ys => .cons (.str y) (DvAll.strs ys)
theorem DvAll.strsInv {P : FP} : ∀ {xs : List V} {ys : List Str}, DvAll P xs (ys.map D.str) → xs = ys.map V.str
  | _, [], .nil => rfl
  | _, y :: ys, .cons a b => by
    cases a
    rw [DvAll.strsInv b]
    rfl
def rdSplit : RMd := fun w ws δ Q => ∃ a b, w = .dat (.str a) ∧ ws = [.dat (.str b)] ∧ (b.length == 0) = false ∧ a.length + 2 ≤ sizeLine ∧ Q (.own δ.own.length) ⟨δ.slots, δ.own ++ [some (.lst ((Txt.split a b).map D.str))]⟩
theorem up_split : UpM (fun x xs H Q => ∃ a b, x = .str a ∧ xs = [.str b] ∧ (b.length == 0) = false ∧ a.length + 2 ≤ sizeLine ∧ rNewStrs (Txt.split a b) H Q) rdSplit := by
  rintro B O σ H δ x vs w ws Qd Q R rx rs ⟨a, b, rfl, rfl, h1, h2, q⟩ L
  cases rx
  obtain ⟨y, rfl, ry⟩ := rs.one
  cases ry
  refine ⟨a, b, rfl, rfl, h1, h2, fun p n => ?_⟩
  obtain ⟨k1, k2, k3⟩ := R.new n (DvAll.strs (Txt.split a b))
  exact L _ _ _ _ _ q k1 k2 k3
def rdPart : RMd := fun w ws δ Q => ∃ a b, w = .dat (.str a) ∧ ws = [.dat (.str b)] ∧ (b.length == 0) = false ∧ a.length ≤ sizeLine ∧ Q (.dat (.tup [.str (Txt.partition a b).1, .str (Txt.partition a b).2.1, .str (Txt.partition a b).2.2])) δ
theorem up_part : UpM (fun x xs H Q => ∃ a b, x = .str a ∧ xs = [.str b] ∧ (b.length == 0) = false ∧ a.length ≤ sizeLine ∧ ∀ p, H p = none → Q (.ref p) (upd H p (.tup [.str (Txt.partition a b).1, .str (Txt.partition a b).2.1, .str (Txt.partition a b).2.2]))) rdPart := by
  rintro B O σ H δ x vs w ws Qd Q R rx rs ⟨a, b, rfl, rfl, h1, h2, q⟩ L
  cases rx
  obtain ⟨y, rfl, ry⟩ := rs.one
  cases ry
  refine ⟨a, b, rfl, rfl, h1, h2, fun p n => ?_⟩
  obtain ⟨k1, k2, k3⟩ := R.dat n (DvAll.strs [(Txt.partition a b).1, (Txt.partition a b).2.1, (Txt.partition a b).2.2])
  exact L _ _ _ _ _ q k1 k2 k3
def rdJoin : RMd := fun w ws δ Q => ∃ a u, ∃ ys : List Str, w = .dat (.str a) ∧ ws = [u] ∧ PkS δ.own u (ys.map D.str) ∧ (ys.map (·.length)).sum + ys.length * a.length ≤ 16777216 ∧ Q (.dat (.str (Txt.join a ys))) δ
theorem up_join {K : PySem.W.Frag} : UpM (fun x xs H Q => ∃ a p, ∃ ys : List Str, x = .str a ∧ xs = [.ref p] ∧ (SqL K H p (ys.map V.str) ∨ SqT K H p (ys.map V.str)) ∧ (ys.map (·.length)).sum + ys.length * a.length ≤ 16777216 ∧ Q (.str (Txt.join a ys)) H) rdJoin := by
  rintro B O σ H δ x vs w ws Qd Q R rx rs ⟨a, u, ys, rfl, rfl, p, hz, q⟩ L
  cases rx
  obtain ⟨y, rfl, ry⟩ := rs.one
  rcases p with p | p
  · obtain ⟨c, xs, rfl, e, l⟩ := pk_vw R.st ry p
    obtain rfl := DvAll.strsInv l
    exact ⟨a, c, ys, rfl, rfl, .inl (SqL.of e), hz, L _ δ O _ H q .refl R (.str _)⟩
  · obtain ⟨c, xs, rfl, e, l⟩ := pk_vw R.st ry p
    obtain rfl := DvAll.strsInv l
    exact ⟨a, c, ys, rfl, rfl, .inr (SqT.of e), hz, L _ δ O _ H q .refl R (.str _)⟩
def rdTxB (g : Str → Bool) : RMd := fun w ws δ Q => ∃ a, w = .dat (.str a) ∧ ws = [] ∧ Q (.dat (.bl (g a))) δ
theorem up_txB {g : Str → Bool} : UpM (fun x xs H Q => ∃ a, x = .str a ∧ xs = [] ∧ True ∧ Q (.bl (g a)) H) (rdTxB g) := by
  rintro B O σ H δ x vs w ws Qd Q R rx rs ⟨a, rfl, rfl, q⟩ L
  cases rx
  cases rs
  exact ⟨a, rfl, rfl, trivial, L _ δ O _ H q .refl R (.bl _)⟩
/-! ### f'..' -/
section
variable {X : Cx} {B : Base} {e v1 v2 : Expr} {es rest : List Expr} {pos : Pos} {te : DE}
def dFmt (te : DE) : DE := fun δ Q => te δ fun w δ1 => (∃ y : Str, w = .dat (.str y) ∧ y.length ≤ sizeLine ∧ Q (.dat (.str y)) δ1) ∨ ∃ i : Int, w = .dat (.int i) ∧ i.natAbs.log2 < 1920 ∧ Q (.dat (.str (toString i))) δ1
theorem v_fmt (h : PE X e (upE B te)) : PE X (.FormattedValue e (-1) none pos) (upE B (dFmt te)) := pe_imp (pe_fmt h) fun σ H Q ⟨O, δ, Qd, R, h, L⟩ =>
  ⟨O, δ, _, R, h, fun w δ1 O1 v H1 q e1 R1 r1 => by
    rcases q with ⟨y, rfl, hz, q⟩ | ⟨i, rfl, hz, q⟩
    · cases r1
      exact .inl ⟨y, rfl, hz, L _ δ1 O1 _ H1 q e1 R1 (.str _)⟩
    · cases r1
      exact .inr ⟨i, rfl, hz, L _ δ1 O1 _ H1 q e1 R1 (.str _)⟩⟩
inductive VJ (X : Cx) (B : Base) : List Expr → List DE → Prop where
  | nil : VJ X B [] []
  | cons {e : Expr} {t : DE} {es : List Expr} {ts : List DE} (h : PE X e (upE B t)) (r : VJ X B es ts) : VJ X B (e :: es) (t :: ts)
theorem VJ.pj {ts : List DE} (h : VJ X B es ts) : PJ X es (ts.map (upE B)) := by
  induction h with
  | nil => exact .nil
  | cons h _ ih => exact .cons h ih
def dJs : List DE → Str → DS → (Str → DS → Prop) → Prop
  | [], acc, δ, Q => Q acc δ
  | t :: ts, acc, δ, Q => t δ fun w δ1 => ∃ y : Str, w = .dat (.str y) ∧ (acc ++ y).length ≤ sizeLine ∧ dJs ts (acc ++ y) δ1 Q
theorem up_js : ∀ (ts : List DE) (acc : Str) (O : List Addr) (σ : L2.St) (H : Hp) (δ : DS) (Qd : Str → DS → Prop) (Q : Str → Hp → Prop), Rel B O σ H δ → dJs ts acc δ Qd →
    (∀ out δ' O' H', Qd out δ' → Ext O δ.own H O' δ'.own H' → Rel B O' σ H' δ' → Q out H') → tJs (ts.map (upE B)) acc σ H Q
  | [], acc, O, σ, H, δ, Qd, Q, R, h, L => L acc δ O H h .refl R
  | t :: ts, acc, O, σ, H, δ, Qd, Q, R, h, L => ⟨O, δ, _, R, h, fun w δ1 O1 v H1 ⟨y, ew, hz, q⟩ e1 R1 r1 => by
    subst ew
    cases r1
    exact ⟨y, rfl, hz, up_js ts _ O1 σ H1 δ1 Qd Q R1 q fun out δ' O' H' q' e' R' => L out δ' O' H' q' (e1.trans e') R'⟩⟩
def dJoined (ts : List DE) : DE := fun δ Q => dJs ts Str.empty δ fun out δ1 => Q (.dat (.str out)) δ1
theorem v_joined {ts : List DE} (h : VJ X B (v1 :: v2 :: rest) ts) : PE X (.JoinedStr (v1 :: v2 :: rest) pos) (upE B (dJoined ts)) := by
  obtain ⟨t, us, rfl⟩ : ∃ t us, ts = t :: us := by
    cases h
    exact ⟨_, _, rfl⟩
  exact pe_imp (pe_joined h.pj) fun σ H Q ⟨O, δ, Qd, R, h, L⟩ => up_js _ _ O σ H δ _ _ R h fun out δ' O' H' q e' R' => L _ δ' O' _ H' q e' R' (.str out)
end
end Va

set_option maxRecDepth 100000
set_option maxHeartbeats 2000000
namespace Va
open PySem PySem.Spec PyProof.Rows L2 Fd

/-! ### [e for x in l], x the slot n -/
def dLc (n : Nat) (tl te : DE) : DE := fun δ Q => tl δ fun w δ1 => toD w δ1 fun d δ2 => ∃ ds, (d = .lst ds ∨ d = .tup ds) ∧ ∃ Pv : Nat → List D → Own → Prop, Pv 0 [] (δ2.own ++ [some (.lst [])]) ∧
  (∀ i x acc S, ds[i]? = some x → Pv i acc S → S[δ2.own.length]? = some (some (.lst acc)) → te ⟨(δ2.slots.set n none).set n (some (.dat x)), S⟩ fun u δ3 => toD u δ3 fun y δ4 =>
    δ4.own[δ2.own.length]? = some (some (.lst acc)) ∧ acc.length < sizeLine ∧ Pv (i + 1) (acc ++ [y]) (δ4.own.set δ2.own.length (some (.lst (acc ++ [y]))))) ∧
  ∀ acc S, Pv ds.length acc S → S[δ2.own.length]? = some (some (.lst acc)) → Q (.own δ2.own.length) ⟨δ2.slots, S⟩
theorem v_lc {X : Cx} {B : Base} {n : Nat} {e : Expr} {tl te : DE} (h : PE X e (tLc (iSeq X.K (upE B tl)) (gName n) tYes (upE B te) [n])) : PE X e (upE B (dLc n tl te)) := pe_imp h fun σ H Q ⟨O, δ, Qd, R, h, L⟩ => by
  refine ⟨O, δ, _, R, h, fun w δ1 O1 v H1 q e1 R1 r1 => ?_⟩
  obtain ⟨d, δ2, ⟨ds, hds, Pv, h0, hs, hd⟩, R2, e2, hv⟩ := toD_ok R1 r1 q
  have e12 := e1.trans e2
  obtain ⟨a, xs, b, rfl, hb, l⟩ : ∃ a xs b, v = .ref a ∧ SqB X.K H1 a xs b ∧ DvAll (Fz O1 δ2.own H1) xs ds ∧ Fz O1 δ2.own H1 a (if b then .lst xs else .tup xs) := by
    rcases hds with rfl | rfl
    · cases hv with
      | lst e l => exact ⟨_, _, true, rfl, SqL.of e.1, l, e⟩
    · cases hv with
      | tup e l => exact ⟨_, _, false, rfl, SqT.of e.1, l, e⟩
  have keep : ∀ {O' S' H'}, Ext O1 δ2.own H1 O' S' H' → SqB X.K H' a xs b := fun {O' S' H'} ex => by
    have z := ex.fz _ _ l.2
    cases b with
    | true => exact SqL.of z.1
    | false => exact SqT.of z.1
  have run : ∀ pN, H1 pN = none → ∃ Pw : Nat → Hp → Prop, Pw 0 (upd H1 pN (.lst [])) ∧ (∀ i H, i ≤ xs.length → Pw i H → SqB X.K H a xs b) ∧
      (∀ i x H, xs[i]? = some x → Pw i H → upE B te ((wipe σ [n]).set n (some x)) H fun y H4 => ∃ acc, H4 pN = some (.lst acc) ∧ acc.length < sizeLine ∧ Pw (i + 1) (upd H4 pN (.lst (acc ++ [y])))) ∧
      ∀ H, Pw xs.length H → Q (.ref pN) H := fun pN hD => by
    obtain ⟨k1, k2, k3⟩ := R2.new hD DvAll.nil
    obtain ⟨c, hc, ec⟩ := k3
    obtain rfl : pN = c := by cases ec; rfl
    refine ⟨fun i H' => ∃ (O' : List Addr) (S : Own) (acc : List D), Ext O1 δ2.own H1 O' S H' ∧ Rel B O' (σ.set n none) H' ⟨δ2.slots.set n none, S⟩ ∧ O'[δ2.own.length]? = some pN ∧ S[δ2.own.length]? = some (some (.lst acc)) ∧ Pv i acc S,
      ⟨O1 ++ [pN], _, [], k1, k2.off n, hc, push_get, h0⟩, fun i H' _ ⟨O', S, acc, ex, _⟩ => keep ex, ?_, ?_⟩
    · rintro i x H' hx ⟨O', S, acc, ex, R', hO, hS, hp⟩
      have hi : i < xs.length := (List.getElem?_eq_some_iff.mp hx).1
      obtain ⟨dy, edy⟩ : ∃ dy, ds[i]? = some dy := ⟨_, List.getElem?_eq_getElem (by rw [← l.1.len]; exact hi)⟩
      obtain ⟨y, hy, hyd⟩ := l.1.get (i := i) edy
      rw [hx] at hy
      cases hy
      refine ⟨O', _, _, R'.set (w := .dat dy) n (hyd.k ex.fz), hs i dy acc S edy hp hS, fun u δ3 O3 y H3 q3 e3 R3 r3 => ?_⟩
      obtain ⟨z, δ4, ⟨h1, h2, h3⟩, R4, e4, hz⟩ := toD_ok R3 r3 q3
      have e34 : Ext O' S H' O3 δ4.own H3 := e3.trans e4
      have R5 := R'.to R4.st e34
      have hO3 := e34.get hO
      obtain ⟨a2, ys, ea, ha, hh, l5⟩ := R5.lst ⟨pN, hO3, rfl⟩ h1
      cases ea
      obtain ⟨m1, m2⟩ := R5.mut (xs' := ys ++ [y]) ha h1 (l5.app (.cons hz .nil))
      exact ⟨ys, hh, by rw [l5.len]; exact h2, O3, _, _, (ex.trans e34).trans m1, m2, hO3, set_get h1, h3⟩
    · rintro H' ⟨O', S, acc, ex, R', hO, hS, hp⟩
      rw [l.1.len] at hp
      exact L _ ⟨δ2.slots, S⟩ O' _ H' (hd acc S hp hS) (e12.trans ex) (R2.to R'.st ex) ⟨pN, hO, rfl⟩
  have hw : ∀ x : V, wipe ((wipe σ [n]).set n (some x)) [n] = wipe σ [n] := fun x => by
    show ((σ.set n none).set n (some x)).set n none = σ.set n none
    rw [List.set_set, List.set_set]
  have z := lc_seq (K := X.K) (tl := tC (.ref a)) (te := upE B te) (Q := Q) (fun R h => h) b hb hw run
  exact z
end Va

set_option maxRecDepth 100000
set_option maxHeartbeats 2000000
namespace Va
open PySem PySem.Spec PyProof.Rows L2 Fd
/-! ### str of a number or of a text; a promise that raises nothing -/
theorem call_strA {X : Cx} : CallR X (.type "str") (fun xs H Q => (∃ i, xs = [.int i] ∧ i.natAbs.log2 < 1920 ∧ Q (.str (toString i)) H) ∨ ∃ a, xs = [.str a] ∧ Q (.str a) H) := by
  intro pins s σ H xs us Q I r h
  rcases h with h | h
  · exact call_str_int pins s σ H xs us Q I r h
  · exact SkE.call_str_str pins s σ H xs us Q I r h
def rdStrA : RCd := fun ws δ Q => (∃ i : Int, ws = [.dat (.int i)] ∧ i.natAbs.log2 < 1920 ∧ Q (.dat (.str (toString i))) δ) ∨ ∃ a, ws = [.dat (.str a)] ∧ Q (.dat (.str a)) δ
theorem up_strA : UpC (fun xs H Q => (∃ i, xs = [.int i] ∧ i.natAbs.log2 < 1920 ∧ Q (.str (toString i)) H) ∨ ∃ a, xs = [.str a] ∧ Q (.str a) H) rdStrA := by
  rintro B O σ H δ vs ws Qd Q R rs (⟨i, rfl, hl, q⟩ | ⟨a, rfl, q⟩) L
  · obtain ⟨v, rfl, r⟩ := rs.one
    cases r
    exact .inl ⟨i, rfl, hl, L _ δ O _ H q .refl R (.str _)⟩
  · obtain ⟨v, rfl, r⟩ := rs.one
    cases r
    exact .inr ⟨a, rfl, L _ δ O _ H q .refl R (.str _)⟩
theorem le0 {B : Base} : LE B (fun _ _ _ => False) (fun _ _ _ => False) := fun _ _ _ _ _ _ _ z => z.elim
/-! ### what is written -/
/-- the text of a sign -/
def sgS (i : Int) : Str := toString i
def itS : Itm → Str
  | .put xs => Txt.join " " ("put" :: xs.map sgS)
  | .plus k => Txt.join " " ["plus", sgS k]
  | .own j k => Txt.join " " ["own", sgS j, sgS k]
def itsS (is : List Itm) : Str := if is = [] then "nothing" else Txt.join ", " (is.map itS)
def wdS : Wd → Str
  | .sign s => sgS s
  | .other => "other"
  | .fin => "end"
def ruS (r : Ru) : Str := match r.next with
  | none => sgS r.stand ++ " " ++ wdS r.word ++ ": " ++ itsS r.items
  | some n => sgS r.stand ++ " " ++ wdS r.word ++ ": " ++ itsS r.items ++ " > " ++ sgS n
def boS (s : Int) (rs : List Ru) : Str := Txt.join "\n" (("start " ++ sgS s) :: rs.map ruS)
theorem tx_len (s : Str) : (tx s).length = s.length := by
  show s.cps.toList.length = s.cps.size
  rw [Array.length_toList]
theorem sgS_len {i : Int} (h : OkS i) : (sgS i).length ≤ 2 := by
  have z := tx_int h
  rw [PyData.shown] at z
  have y := congrArg List.length z
  rw [tx_len] at y
  show (toString i : Str).length ≤ 2
  rw [y]
  unfold dg
  split <;> simp
def sdItemT : SpD := fun ws S Q _ => ∃ i, ws = [.dat (Itm.v i)] ∧ ItOk i ∧ Q (.dat (.str (itS i))) S
/-- the parts of an item, and their texts -/
def itP : Itm → List D
  | .put xs => .str "put" :: xs.map D.int
  | .plus k => [.str "plus", .int k]
  | .own j k => [.str "own", .int j, .int k]
def itPS : Itm → List Str
  | .put xs => "put" :: xs.map sgS
  | .plus k => ["plus", sgS k]
  | .own j k => ["own", sgS j, sgS k]
theorem itS_eq (i : Itm) : itS i = Txt.join " " (itPS i) := by cases i <;> rfl
theorem log_sg {i : Int} (h : OkS i) : i.natAbs.log2 < 1920 := by
  have z : i.natAbs < 100 := by have := h.1; have := h.2; omega
  exact Nat.lt_of_le_of_lt (Nat.log2_le_self _) (by omega)
/-- a part is a text or a sign, its text stands at the same place -/
theorem itP_get {i : Itm} (h : ItOk i) {j : Nat} {d : D} (e : (itP i)[j]? = some d) : ∃ t, (itPS i)[j]? = some t ∧ ((∃ k, d = .int k ∧ OkS k ∧ t = sgS k) ∨ d = .str t) := by
  cases i with
  | put xs =>
    cases j with
    | zero => cases e; exact ⟨_, rfl, .inr rfl⟩
    | succ j =>
      have e : (xs.map D.int)[j]? = some d := e
      rw [List.getElem?_map] at e
      cases c : xs[j]? with
      | none => rw [c] at e; cases e
      | some k =>
        rw [c] at e
        cases e
        refine ⟨sgS k, ?_, .inl ⟨k, rfl, h.1 k (List.mem_of_getElem? c), rfl⟩⟩
        show (xs.map sgS)[j]? = _
        rw [List.getElem?_map, c]
        rfl
  | plus k =>
    match j, e with
    | 0, e => cases e; exact ⟨_, rfl, .inr rfl⟩
    | 1, e => cases e; exact ⟨_, rfl, .inl ⟨k, rfl, h, rfl⟩⟩
    | j + 2, e => simp [itP] at e
  | own a b =>
    match j, e with
    | 0, e => cases e; exact ⟨_, rfl, .inr rfl⟩
    | 1, e => cases e; exact ⟨_, rfl, .inl ⟨a, rfl, h.1, rfl⟩⟩
    | 2, e => cases e; exact ⟨_, rfl, .inl ⟨b, rfl, h.2, rfl⟩⟩
    | j + 3, e => simp [itP] at e
theorem itPS_len (i : Itm) : (itPS i).length = (itP i).length := by cases i <;> simp [itPS, itP]
theorem itP_len {i : Itm} (h : ItOk i) : (itP i).length ≤ 100 := by
  cases i with
  | put xs => have := h.2; simp [itP]; omega
  | plus k => simp [itP]
  | own a b => simp [itP]
theorem sum_le {l : List Nat} {m : Nat} (h : ∀ x ∈ l, x ≤ m) : l.sum ≤ l.length * m := by
  induction l with
  | nil => exact Nat.zero_le _
  | cons x l ih =>
    have a := h x List.mem_cons_self
    have b := ih fun y hy => h y (List.mem_cons_of_mem _ hy)
    rw [List.sum_cons, List.length_cons, Nat.succ_mul]
    omega
theorem itPS_sum {i : Itm} (h : ItOk i) : ((itPS i).map (·.length)).sum ≤ 400 := by
  have z : ∀ x ∈ (itPS i).map (·.length), x ≤ 4 := fun x hx => by
    obtain ⟨t, ht, rfl⟩ := List.mem_map.mp hx
    obtain ⟨j, hj⟩ := List.mem_iff_getElem?.mp ht
    have hjl : j < (itP i).length := by
      rw [← itPS_len]
      exact (List.getElem?_eq_some_iff.mp hj).1
    obtain ⟨u, hu, hd⟩ := itP_get h (List.getElem?_eq_getElem hjl)
    rw [hj] at hu
    cases hu
    rcases hd with ⟨k, _, hk, rfl⟩ | hd
    · have := sgS_len hk
      show (sgS k).length ≤ 4
      omega
    · have m : (itP i)[j] ∈ itP i := List.getElem_mem _
      rw [hd] at m
      cases i with
      | put xs =>
        rcases List.mem_cons.mp m with m | m
        · cases m
          show ("put" : Str).length ≤ 4
          decide
        · obtain ⟨_, _, m⟩ := List.mem_map.mp m
          cases m
      | plus k =>
        simp [itP] at m
        subst m
        show ("plus" : Str).length ≤ 4
        decide
      | own a b =>
        simp [itP] at m
        subst m
        show ("own" : Str).length ≤ 4
        decide
  have y := sum_le z
  have l := itP_len h
  rw [List.length_map, itPS_len] at y
  omega
theorem join_le (y : Str) : ∀ ps : List Str, (Txt.join y ps).length ≤ (ps.map (·.length)).sum + ps.length * y.length := by
  intro ps
  rw [TL.join_eq]
  induction ps with
  | nil => exact Nat.zero_le _
  | cons p r ih =>
    cases r with
    | nil =>
      show p.length ≤ _
      simp
    | cons q r =>
      show (p ++ y ++ Str.join y (q :: r)).length ≤ _
      rw [strLen_append, strLen_append, List.map_cons, List.sum_cons, List.length_cons, Nat.succ_mul]
      omega
theorem itS_len {i : Itm} (h : ItOk i) : (itS i).length ≤ 500 := by
  have a := join_le " " (itPS i)
  have b := itPS_sum h
  have c := itP_len h
  have o : (" " : Str).length = 1 := by decide
  rw [← itS_eq, itPS_len, o] at a
  omega
theorem itsS_len {is : List Itm} (h : ∀ i ∈ is, ItOk i) (l : is.length ≤ 99) : (itsS is).length ≤ 60000 := by
  unfold itsS
  split
  · decide
  · have a := join_le ", " (is.map itS)
    have o : (", " : Str).length = 2 := by decide
    have z : ((is.map itS).map (·.length)).sum ≤ ((is.map itS).map (·.length)).length * 500 := sum_le fun x hx => by
      obtain ⟨t, ht, rfl⟩ := List.mem_map.mp hx
      obtain ⟨i, hi, rfl⟩ := List.mem_map.mp ht
      exact itS_len (h i hi)
    rw [o] at a
    simp only [List.length_map] at a z
    omega
def sdItemsT : SpD := fun ws S Q _ => ∃ is, ws = [.dat (.tup (itsV is))] ∧ (∀ i ∈ is, ItOk i) ∧ is.length ≤ 99 ∧ Q (.dat (.str (itsS is))) S
def sdRuleT : SpD := fun ws S Q _ => ∃ r, ws = [.dat (Ru.v r)] ∧ RuOk r ∧ Q (.dat (.str (ruS r))) S
theorem empty_app (x : Str) : Str.empty ++ x = x := by
  obtain ⟨c⟩ := x
  show (⟨#[] ++ c⟩ : Str) = ⟨c⟩
  rw [Array.empty_append]
theorem sl5 {n : Nat} (h : n ≤ 100000) : n ≤ sizeLine := Nat.le_trans h (by decide)
theorem wdS_len {w : Wd} (h : WdOk w) : (wdS w).length ≤ 5 := by
  cases w with
  | sign s =>
    have := sgS_len (show OkS s from h)
    show (sgS s).length ≤ 5
    omega
  | other => decide
  | fin => decide
/-! ### texts that == answers on -/
theorem ok_app (a b : Str) : PyData.strOk (a ++ b) = (PyData.strOk a && PyData.strOk b) := by
  show (a.cps ++ b.cps).all _ = _
  rw [Array.all_append]
  rfl
theorem ok_sg {i : Int} (h : OkS i) : PyData.strOk (sgS i) = true := by
  have all : ∀ n : Fin 100, PyData.strOk (sgS (n.val : Int)) = true := by decide +kernel
  obtain ⟨n, rfl⟩ := Int.eq_ofNat_of_zero_le h.1
  exact all ⟨n, by have := h.2; omega⟩
theorem ok_join {y : Str} (hy : PyData.strOk y = true) : ∀ {ps : List Str}, (∀ p ∈ ps, PyData.strOk p = true) → PyData.strOk (Txt.join y ps) = true := by
  intro ps
  rw [TL.join_eq]
  induction ps with
  | nil =>
    intro _
    show PyData.strOk Str.empty = true
    decide +kernel
  | cons p r ih =>
    intro h
    cases r with
    | nil => exact h p List.mem_cons_self
    | cons q r =>
      show PyData.strOk (p ++ y ++ Str.join y (q :: r)) = true
      rw [ok_app, ok_app, h p List.mem_cons_self, hy, ih fun z hz => h z (List.mem_cons_of_mem _ hz)]
      rfl
theorem ok_it {i : Itm} (h : ItOk i) : PyData.strOk (itS i) = true := by
  rw [itS_eq]
  refine ok_join (by decide +kernel) fun p hp => ?_
  cases i with
  | put xs =>
    rcases List.mem_cons.mp hp with rfl | hp
    · decide +kernel
    · obtain ⟨k, hk, rfl⟩ := List.mem_map.mp hp
      exact ok_sg (h.1 k hk)
  | plus k =>
    rcases List.mem_cons.mp hp with rfl | hp
    · decide +kernel
    · rw [List.mem_singleton.mp hp]
      exact ok_sg h
  | own a b =>
    rcases List.mem_cons.mp hp with rfl | hp
    · decide +kernel
    rcases List.mem_cons.mp hp with rfl | hp
    · exact ok_sg h.1
    · rw [List.mem_singleton.mp hp]
      exact ok_sg h.2
theorem sh_txs {ps : List Str} (h : ∀ p ∈ ps, PyData.strOk p = true) : Sh 1 (.lst (ps.map D.str)) := .lst fun d hd => by
  obtain ⟨p, hp, rfl⟩ := List.mem_map.mp hd
  exact .str (by rw [PyData.canLay0]; exact h p hp)
theorem eq_nilL (ps : List Str) : eqD (.lst (ps.map D.str)) (.lst []) = decide (ps = []) := by
  cases ps with
  | nil => exact (Sh.lst (n := 0) (ds := []) (fun _ h => nomatch h)).eq
  | cons p r =>
    unfold eqD
    rw [py, py, List.map_cons, pys, pys]
    simp [PyData.eqv, PyData.eqvAll]
def itsP (is : List Itm) : List Str := if is = [] then ["nothing"] else is.map itS
theorem itsP_join (is : List Itm) : Txt.join ", " (itsP is) = itsS is := by
  unfold itsP itsS
  split
  · rw [TL.join_eq]
    rfl
  · rfl
/-! ### no text is much longer than its row -/
theorem itPS_sum4 {i : Itm} (h : ItOk i) : ((itPS i).map (·.length)).sum + (itPS i).length ≤ 4 * (itI i).length := by
  cases i with
  | put xs =>
    have o : ("put" : Str).length = 3 := by decide
    have z : ((xs.map sgS).map (·.length)).sum ≤ ((xs.map sgS).map (·.length)).length * 2 := sum_le fun x hx => by
      obtain ⟨t, ht, rfl⟩ := List.mem_map.mp hx
      obtain ⟨k, hk, rfl⟩ := List.mem_map.mp ht
      exact sgS_len (h.1 k hk)
    simp only [List.length_map] at z
    show ("put" : Str).length + ((xs.map sgS).map (·.length)).sum + (xs.map sgS).length.succ ≤ 4 * (xs.length + 2)
    rw [List.length_map, o]
    omega
  | plus k =>
    have o : ("plus" : Str).length = 4 := by decide
    have z := sgS_len (show OkS k from h)
    show ("plus" : Str).length + ((sgS k).length + 0) + 2 ≤ 4 * 2
    rw [o]
    omega
  | own a b =>
    have o : ("own" : Str).length = 3 := by decide
    have z := sgS_len (show OkS a from h.1)
    have y := sgS_len (show OkS b from h.2)
    show ("own" : Str).length + ((sgS a).length + ((sgS b).length + 0)) + 3 ≤ 4 * 3
    rw [o]
    omega
theorem itS_len4 {i : Itm} (h : ItOk i) : (itS i).length ≤ 4 * (itI i).length := by
  have a := join_le " " (itPS i)
  have b := itPS_sum4 h
  have o : (" " : Str).length = 1 := by decide
  rw [← itS_eq, o] at a
  omega
theorem itsS_sum : ∀ {is : List Itm}, (∀ i ∈ is, ItOk i) → ((is.map itS).map (·.length)).sum + is.length * 2 ≤ 5 * (itsI is).length
  | [], _ => Nat.zero_le _
  | i :: is, h => by
    have a := itS_len4 (h i List.mem_cons_self)
    have b := itsS_sum (is := is) fun j hj => h j (List.mem_cons_of_mem _ hj)
    have c : 2 ≤ (itI i).length := by cases i <;> simp [itI]
    show (itS i).length + ((is.map itS).map (·.length)).sum + (is.length + 1) * 2 ≤ 5 * (itI i ++ itsI is).length
    rw [List.length_append]
    omega
theorem itsS_len5 {is : List Itm} (h : ∀ i ∈ is, ItOk i) : (itsS is).length ≤ 7 + 5 * (itsI is).length := by
  unfold itsS
  split
  · have o : ("nothing" : Str).length = 7 := by decide
    rw [o]
    omega
  · have a := join_le ", " (is.map itS)
    have b := itsS_sum h
    have o : (", " : Str).length = 2 := by decide
    rw [o, List.length_map] at a
    omega
theorem ruS_len8 {r : Ru} (h : RuOk r) : (ruS r).length ≤ 8 * (ruI r).length := by
  have hn := h.nxt
  obtain ⟨s, wd, its, nx⟩ := r
  have a1 := sgS_len (show OkS s from h.st)
  have a2 : (wdS wd).length ≤ 5 := wdS_len h.wd
  have a3 : (itsS its).length ≤ 7 + 5 * (itsI its).length := itsS_len5 h.its
  have o1 : (" " : Str).length = 1 := by decide
  have o2 : (": " : Str).length = 2 := by decide
  have o3 : (" > " : Str).length = 3 := by decide
  have w : 1 ≤ (wdI wd).length := by cases wd <;> simp [wdI]
  have l : (ruI ⟨s, wd, its, nx⟩).length = 1 + ((wdI wd).length + (1 + ((itsI its).length + (nxI nx).length))) := by
    simp [ruI]
    omega
  rw [l]
  cases nx with
  | none =>
    show (sgS s ++ " " ++ wdS wd ++ ": " ++ itsS its).length ≤ _
    rw [strLen_append, strLen_append, strLen_append, strLen_append]
    omega
  | some n =>
    have a4 := sgS_len (show OkS n from hn)
    show (sgS s ++ " " ++ wdS wd ++ ": " ++ itsS its ++ " > " ++ sgS n).length ≤ _
    rw [strLen_append, strLen_append, strLen_append, strLen_append, strLen_append, strLen_append]
    have y : (nxI (some n)).length = 1 := rfl
    omega
theorem rusS_sum : ∀ {rs : List Ru}, RusOk rs → ((rs.map ruS).map (·.length)).sum ≤ 8 * (rusI rs).length
  | [], _ => Nat.zero_le _
  | r :: rs, h => by
    have a := ruS_len8 (h r List.mem_cons_self)
    have b := rusS_sum (rs := rs) fun j hj => h j (List.mem_cons_of_mem _ hj)
    show (ruS r).length + ((rs.map ruS).map (·.length)).sum ≤ 8 * (ruI r ++ rusI rs).length
    rw [List.length_append]
    omega
def sdTextB : SpD := fun ws S Q _ => ∃ (s : Int) (rs : List Ru), ws = [.dat (.int s), .dat (.lst (rusV rs))] ∧ (0 ≤ s ∧ s < 100) ∧ RusOk rs ∧ (rusI rs).length ≤ 1000000 ∧ Q (.dat (.str (boS s rs))) S
end Va

set_option maxRecDepth 100000
set_option maxHeartbeats 2000000
namespace Va
open PySem PySem.Spec PySem.Calls PyProof.Rows L2 Fd

/-! ### a, .., *r = a list -/
theorem star_items {prog : Program} {w : World} {A : Around} {E : Value → Shared → Prop} {s : Shared} {l : Addr} {items : Array Value} {i : Nat} {Q : List Value → Shared → Prop} (hh : A.handled = none)
    (hl : s.heap.IsList l items) (hi : i ≤ items.size) (hz : items.size ≤ sizeLine)
    (h : ∀ h2 tk, Heap.ExtBut s.heap.objs.size s.heap h2 → Q (items.toList.take i ++ [.ref h2.objs.size]) { s with heap := h2.push (seqObj "list" (items.toList.drop i).toArray 0), toks := tk }) :
    wpAny (model prog w) A (unpackItems (.ref l) (i + 1) (some i)) Q E s := by
  obtain ⟨o0, ho0, _⟩ := id hl
  have lo := Heap.lt_size ho0
  unfold unpackItems notIterableAtAll
  refine wpAny_bind (wpAny_bind (wpAny_specialOf hl.typeIs PySem.F.slot_list_iter.lookup (wpAny_pure ?_)))
  simp only [Bool.false_eq_true, if_false]
  refine wpAny_bind (wpAny_holding (wpAny_pyIter_list hl (wpAny_bind (wpAny_holding (PySem.W.kun_draw (Nat.ne_of_lt lo) i 0 _ _ ⟨_, Heap.get?_push_size _ rfl, rfl, rfl⟩ (hl.push _) (by omega) fun h1 i1 s1 => ?_)))))
  rw [Nat.zero_add] at i1
  rw [List.drop_zero, if_neg (by rw [List.length_take, Array.length_toList]; omega)]
  have hl1 := (hl.push { cls := .type "list_iterator", data := .fields #[.ref l, .int 0 0] }).extBut s1.extBut (Nat.ne_of_lt lo)
  obtain ⟨o1, ho1, _⟩ := id i1
  obtain ⟨o2, ho2, _⟩ := id hl1
  refine wpAny_bind (wpAny_holding (PySem.W.kun_collect (s := { s with heap := h1 }) (T := "list_iterator") (.inr (.inr (.inl rfl))) (Walks.list (A := A.in1) hh s.heap.objs.size l (Nat.ne_of_lt lo) items) (fun j u st => st.1.typeIs) (k := i) hi ⟨i1, hl1⟩ (Heap.lt_size ho1) (Heap.lt_size ho2) (fun h2 tk hk => ?_) hz))
  simp only [show i + 1 - 1 - i = 0 from by omega, Nat.not_lt_zero, if_false, Nat.sub_zero, List.take_length, List.drop_length, List.append_nil]
  refine wpAny_bind (wpAny_newList (wpAny_pure (h h2 tk fun b o hb e => hk b o hb (s1.extBut b o hb (Heap.get?_push_of_some _ e)))) ?_)
  rw [List.length_drop, Array.length_toList]
  omega
def gStar (K : PySem.W.Frag) (i : Nat) (t : TGs) : TG := fun v σ H Q => ∃ a xs, v = .ref a ∧ SqL K H a xs ∧ i ≤ xs.length ∧ ∀ p, H p = none → t (xs.take i ++ [.ref p]) σ (upd H p (.lst (xs.drop i))) Q
theorem Vals.take {xs : List V} {us : List Value} (h : Vals xs us) : ∀ i, Vals (xs.take i) (us.take i) := by
  induction h with
  | nil => intro i; simpa using Paired.nil
  | cons r _ ih =>
    intro i
    cases i with
    | zero => exact .nil
    | succ i => exact .cons r (ih i)
theorem Vals.drop {xs : List V} {us : List Value} (h : Vals xs us) : ∀ i, Vals (xs.drop i) (us.drop i) := by
  induction h with
  | nil => intro i; simpa using Paired.nil
  | cons r t ih =>
    intro i
    cases i with
    | zero => exact .cons r t
    | succ i => exact ih i
theorem Vals.app {xs ys : List V} {us vs : List Value} (h : Vals xs us) (k : Vals ys vs) : Vals (xs ++ ys) (us ++ vs) := by
  induction h with
  | nil => exact k
  | cons r _ ih => exact .cons r ih
/-- the names of es, without the star of the last one: es' -/
theorem pg_star {X : Cx} {es es' : List Expr} {k : Nat} {pos : Pos} {t : TGs} {i : Nat} (hc : X.calm = true) (h : PGs X es' t) (he : (assignEach es X.env).map (·.2) = (assignEach es' X.env).map (·.2) := by rfl)
    (hn : (assignEach es X.env).length = i + 1 := by rfl) (hst : (assignEach es X.env).findIdx? (·.1) = some i := by rfl) : PG X (.Tuple es k pos) (gStar X.K i t) := by
  refine ⟨fun pins s σ H v u Q I r hw => ?_⟩
  obtain ⟨a, xs, e1, hq, hl, hw⟩ := hw
  subst e1
  cases r
  obtain ⟨its, rv, ht, hz⟩ := I.list hq
  have hlen := rv.length
  rw [assign_Tuple]
  refine wpAny_bind (wpAny_standAt ?_)
  unfold unpack
  rw [hn, hst, he]
  refine wpAny_bind (wpAny_holding (star_items (I.ok.hd hc) ht.isList (by rw [List.size_toArray]; omega) (by rw [List.size_toArray]; omega) fun h2 tk hx => ?_))
  have I1 : Inv X pins σ H { s with heap := h2, toks := tk } := I.kept (t' := tk) fun b o e => hx b o (Nat.ne_of_lt (Heap.lt_size e)) e
  have I2 : Inv X pins σ (upd H h2.objs.size (.lst (xs.drop i))) { s with heap := h2.push (seqObj "list" (its.drop i).toArray 0), toks := tk } := I1.laid (t' := tk) (fun b u e => Heap.get?_push_of_some _ e) (Nat.le_refl _)
    (show ObjOk X.prog X.w _ _ _ (.lst (xs.drop i)) from ⟨by rw [List.length_drop]; omega, its.drop i, 0, Vals.drop rv i, Heap.get?_push_size _ rfl⟩)
  exact h.run pins _ σ _ _ _ Q I2 (Vals.app (Vals.take rv i) (.cons (show RelV (.ref h2.objs.size) (.ref h2.objs.size) from rfl) .nil)) (hw h2.objs.size (I1.hok.fresh (Nat.le_refl _)))
def dgStar (i : Nat) (r : DGs) : DG := fun w δ Q => ∃ ds, Pk δ.own w (.lst ds) ∧ i ≤ ds.length ∧ r ((ds.take i).map W.dat ++ [.own δ.own.length]) ⟨δ.slots, δ.own ++ [some (.lst (ds.drop i))]⟩ Q
theorem vg_star {X : Cx} {B : Base} {tg : Expr} {i : Nat} {gs : DGs} (h : PG X tg (gStar X.K i (upGs B gs))) : PG X tg (upG B (dgStar i gs)) := pg_imp h fun v σ H Q ⟨O, δ, w, Qd, R, r, ⟨ds, p, hi, q⟩, L⟩ => by
  obtain ⟨a, xs, rfl, e, l⟩ := pk_vw R.st r p
  have hl := l.len
  refine ⟨a, xs, rfl, SqL.of e, by omega, fun p n => ?_⟩
  obtain ⟨k1, k2, k3⟩ := R.new n (l.drop i)
  exact ⟨O ++ [p], _, _, Qd, k2, WRs.app ((WRs.dats (l.take i)).ext k1) (.cons k3 .nil), q, fun δ' O' σ' H' q' e' R' => L δ' O' σ' H' q' (k1.trans e') R'⟩
/-! ### int(text), range(lo, hi) -/
def rdIntS : RCd := fun ws δ Q => ∃ a n, ws = [.dat (.str a)] ∧ PySem.intText? a = some n ∧ a.length ≤ 640 ∧ Q (.dat (.int n)) δ
theorem up_intS : UpC (fun xs H Q => ∃ a n, xs = [.str a] ∧ PySem.intText? a = some n ∧ a.length ≤ 640 ∧ Q (.int n) H) rdIntS := by
  rintro B O σ H δ vs ws Qd Q R rs ⟨a, n, rfl, h1, h2, q⟩ L
  obtain ⟨v, rfl, r⟩ := rs.one
  cases r
  exact ⟨a, n, rfl, h1, h2, L _ δ O _ H q .refl R (.int _)⟩
section
variable {X : Cx} {B : Base} {st : Stmt} {t : DA} {g : DG}
def dForR2 (ta : DA) (g : DG) (tb : DP) : DP := fun E δ => ta δ fun ws δ1 => ∃ i j : Int, ws = [.dat (.int i), .dat (.int j)] ∧ (-(2 ^ 62) ≤ i ∧ i < 2 ^ 62 ∧ -(2 ^ 62) ≤ j ∧ j < 2 ^ 62) ∧ dLoop (j - i).toNat (fun n => .int (i + (n : Nat))) g tb E δ1
theorem v_forR2 {tb : DP} (hs : PS X st (tFor (iRng2 (upA B t)) (upG B g) (upS B tb))) : PS X st (upS B (dForR2 t g tb)) := ps_imp hs fun E σ H ⟨O, δ, Dd, R, h, L⟩ => by
  refine ⟨O, δ, _, R, h, fun ws δ1 O1 vs H1 ⟨i0, j, ew, hb, Pv, h0, hs, hd⟩ e1 R1 r1 => ?_⟩
  subst ew
  obtain ⟨v, x, rfl, r, r'⟩ := r1.two
  cases r
  cases r'
  refine ⟨i0, j, rfl, hb, for_range (fun i σ' H' => ∃ (O' : List Addr) (δ' : DS), Ext O1 δ1.own H1 O' δ'.own H' ∧ Rel B O' σ' H' δ' ∧ Pv i δ') ⟨O1, δ1, .refl, R1, h0⟩ ?_ ?_⟩
  · rintro i σ' H' hi ⟨O', δ', ex, R', hp⟩
    refine ⟨O', δ', .dat (.int (i0 + (i : Nat))), _, R', Dv.int _, hs i δ' hi hp, fun δ3 O3 σ3 H3 q3 e3 R3 => ⟨O3, δ3, _, R3, q3, ?_, ?_, ?_, ?_⟩⟩
    · exact fun δ4 O4 σ4 H4 q4 e4 R4 => ⟨O4, δ4, (ex.trans e3).trans e4, R4, q4⟩
    · exact fun w4 δ4 O4 σ4 v4 H4 q4 e4 R4 r4 => L.rt w4 δ4 O4 σ4 v4 H4 q4 ((e1.trans (ex.trans e3)).trans e4) R4 r4
    · exact fun δ4 O4 σ4 H4 q4 e4 R4 => L.nx δ4 O4 σ4 H4 q4 ((e1.trans (ex.trans e3)).trans e4) R4
    · exact fun δ4 O4 σ4 H4 q4 e4 R4 => ⟨O4, δ4, (ex.trans e3).trans e4, R4, q4⟩
  · rintro σ' H' ⟨O', δ', ex, R', hp⟩
    exact L.nx δ' O' σ' H' (hd δ' hp) (e1.trans ex) R'
end
/-! ### [e for x in range(j)] -/
def dLcR (n : Nat) (ta : DA) (te : DE) : DE := fun δ Q => ta δ fun ws δ2 => ∃ j : Int, ws = [.dat (.int j)] ∧ -(2 ^ 62) ≤ j ∧ j < 2 ^ 62 ∧ ∃ Pv : Nat → List D → Own → Prop, Pv 0 [] (δ2.own ++ [some (.lst [])]) ∧
  (∀ i acc S, i < j.toNat → Pv i acc S → S[δ2.own.length]? = some (some (.lst acc)) → te ⟨(δ2.slots.set n none).set n (some (.dat (.int (0 + (i : Nat))))), S⟩ fun u δ3 => toD u δ3 fun y δ4 =>
    δ4.own[δ2.own.length]? = some (some (.lst acc)) ∧ acc.length < sizeLine ∧ Pv (i + 1) (acc ++ [y]) (δ4.own.set δ2.own.length (some (.lst (acc ++ [y]))))) ∧
  ∀ acc S, Pv j.toNat acc S → S[δ2.own.length]? = some (some (.lst acc)) → Q (.own δ2.own.length) ⟨δ2.slots, S⟩
theorem v_lcR {X : Cx} {B : Base} {n : Nat} {e : Expr} {t : DA} {te : DE} (h : PE X e (tLc (iRng1 (upA B t)) (gName n) tYes (upE B te) [n])) : PE X e (upE B (dLcR n t te)) := pe_imp h fun σ H Q ⟨O, δ, Qd, R, h, L⟩ => by
  refine ⟨O, δ, _, R, h, fun ws δ2 O1 vs H1 ⟨j, ew, j1, j2, Pv, h0, hs, hd⟩ e1 R2 r1 => ?_⟩
  subst ew
  obtain ⟨v, rfl, r⟩ := r1.one
  cases r
  refine ⟨j, rfl, j1, j2, fun pN hD => ?_⟩
  obtain ⟨k1, k2, k3⟩ := R2.new hD DvAll.nil
  obtain ⟨c, hc, ec⟩ := k3
  obtain rfl : pN = c := by cases ec; rfl
  have hw : ∀ x : V, wipe ((wipe σ [n]).set n (some x)) [n] = wipe σ [n] := fun x => by
    show ((σ.set n none).set n (some x)).set n none = σ.set n none
    rw [List.set_set, List.set_set]
  refine lc_range (fun i H' => ∃ (O' : List Addr) (S : Own) (acc : List D), Ext O1 δ2.own H1 O' S H' ∧ Rel B O' (σ.set n none) H' ⟨δ2.slots.set n none, S⟩ ∧ O'[δ2.own.length]? = some pN ∧ S[δ2.own.length]? = some (some (.lst acc)) ∧ Pv i acc S)
    ⟨O1 ++ [pN], _, [], k1, k2.off n, hc, push_get, h0⟩ ?_ ?_
  · rintro i H' hi ⟨O', S, acc, ex, R', hO, hS, hp⟩
    refine ⟨hw _, ?_⟩
    refine ⟨O', _, _, R'.set (w := .dat (.int (0 + (i : Nat)))) n (Dv.int _), hs i acc S hi hp hS, fun u δ3 O3 y H3 q3 e3 R3 r3 => ?_⟩
    obtain ⟨z, δ4, ⟨h1, h2, h3⟩, R4, e4, hz⟩ := toD_ok R3 r3 q3
    have e34 : Ext O' S H' O3 δ4.own H3 := e3.trans e4
    have R5 := R'.to R4.st e34
    have hO3 := e34.get hO
    obtain ⟨a2, ys, ea, ha, hh, l5⟩ := R5.lst ⟨pN, hO3, rfl⟩ h1
    cases ea
    obtain ⟨m1, m2⟩ := R5.mut (xs' := ys ++ [y]) ha h1 (l5.app (.cons hz .nil))
    exact ⟨ys, hh, by rw [l5.len]; exact h2, O3, _, _, (ex.trans e34).trans m1, m2, hO3, set_get h1, h3⟩
  · rintro H' ⟨O', S, acc, ex, R', hO, hS, hp⟩
    exact L _ ⟨δ2.slots, S⟩ O' _ H' (hd acc S hp hS) (e1.trans ex) (R2.to R'.st ex) ⟨pN, hO, rfl⟩
end Va

set_option maxRecDepth 100000
set_option maxHeartbeats 2000000
namespace Va
open PySem PySem.Spec PyProof.Rows L2 Fd

/-! ### what is read from a text -/
def oD : Option Int → D
  | none => .non
  | some i => .int i
def sgOf (a : Str) : Option Int := if (Txt.isascii a && (Txt.isdigit a && decide (a.length ≤ 2))) = true then (PySem.intText? a).bind fun n => if (toString n : Str) = a then some n else none else none
def wdDr (a : Str) : D := if a = "other" then .str "other" else oD (sgOf a)
def itDp : List Str → D
  | [] => .non
  | w :: ss => if w = "put" then .tup [.str w, .tup (ss.map fun s => oD (sgOf s))] else .tup (.str w :: ss.map fun s => oD (sgOf s))
def itDr (a : Str) : D := itDp (Txt.split a " ")
def itsDr (a : Str) : D := if a = "nothing" then .tup [] else .tup ((Txt.split a ", ").map itDr)
def ruDr (a : Str) : D :=
  if (Txt.partition (Txt.partition a ": ").1 " ").2.2 = "end" then .tup [oD (sgOf (Txt.partition (Txt.partition a ": ").1 " ").1), .str "end", itsDr (Txt.partition a ": ").2.2, .non]
  else .tup [oD (sgOf (Txt.partition (Txt.partition a ": ").1 " ").1), wdDr (Txt.partition (Txt.partition a ": ").1 " ").2.2, itsDr (Txt.partition (Txt.partition a ": ").2.2 " > ").1, oD (sgOf (Txt.partition (Txt.partition a ": ").2.2 " > ").2.2)]
def stOf (a : Str) : Option Int := if (Txt.partition a " ").1 = "start" then sgOf (Txt.partition a " ").2.2 else none
/-! ### the signs of what is written -/
def ChA (p : Nat → Bool) (a : Str) : Prop := ∀ c ∈ TL.tl a, p c = true
theorem ch_app {p : Nat → Bool} {a b : Str} (h : ChA p a) (k : ChA p b) : ChA p (a ++ b) := fun c hc => by
  rw [TL.tl_append] at hc
  exact (List.mem_append.mp hc).elim (h c) (k c)
theorem ch_mono {p q : Nat → Bool} {a : Str} (s : ∀ c, p c = true → q c = true) (h : ChA p a) : ChA q a := fun c hc => s c (h c hc)
theorem ch_join {p : Nat → Bool} {y : Str} (hy : ChA p y) : ∀ {ps : List Str}, (∀ a ∈ ps, ChA p a) → ChA p (Txt.join y ps) := by
  intro ps
  rw [TL.join_eq]
  induction ps with
  | nil =>
    intro _ c hc
    cases hc
  | cons a r ih =>
    intro h
    cases r with
    | nil => exact h a List.mem_cons_self
    | cons b r => exact ch_app (ch_app (h a List.mem_cons_self) hy) (ih fun z hz => h z (List.mem_cons_of_mem _ hz))
def pA (c : Nat) : Bool := (decide (48 ≤ c) && decide (c ≤ 57)) || (decide (97 ≤ c) && decide (c ≤ 122))
def pB (c : Nat) : Bool := pA c || c == 32
def pC (c : Nat) : Bool := pB c || c == 44
def pD (c : Nat) : Bool := pC c || (c == 58 || c == 62)
theorem pAB (c : Nat) (h : pA c = true) : pB c = true := by unfold pB; rw [h]; rfl
theorem pBC (c : Nat) (h : pB c = true) : pC c = true := by unfold pC; rw [h]; rfl
theorem pCD (c : Nat) (h : pC c = true) : pD c = true := by unfold pD; rw [h]; rfl
theorem ch_lit {p : Nat → Bool} {a : Str} (h : (TL.tl a).all p = true) : ChA p a := List.all_eq_true.mp h
theorem ch_sg {i : Int} (h : OkS i) : ChA pA (sgS i) := by
  have all : ∀ n : Fin 100, (TL.tl (sgS (n.val : Int))).all pA = true := by decide +kernel
  obtain ⟨n, rfl⟩ := Int.eq_ofNat_of_zero_le h.1
  exact ch_lit (all ⟨n, by have := h.2; omega⟩)
theorem ch_itP {i : Itm} (h : ItOk i) : ∀ a ∈ itPS i, ChA pA a := by
  intro a ha
  cases i with
  | put xs =>
    rcases List.mem_cons.mp ha with rfl | ha
    · exact ch_lit (by decide +kernel)
    · obtain ⟨k, hk, rfl⟩ := List.mem_map.mp ha
      exact ch_sg (h.1 k hk)
  | plus k =>
    rcases List.mem_cons.mp ha with rfl | ha
    · exact ch_lit (by decide +kernel)
    · rw [List.mem_singleton.mp ha]
      exact ch_sg h
  | own j k =>
    rcases List.mem_cons.mp ha with rfl | ha
    · exact ch_lit (by decide +kernel)
    rcases List.mem_cons.mp ha with rfl | ha
    · exact ch_sg h.1
    · rw [List.mem_singleton.mp ha]
      exact ch_sg h.2
theorem ch_it {i : Itm} (h : ItOk i) : ChA pB (itS i) := by
  rw [itS_eq]
  exact ch_join (ch_lit (by decide +kernel)) fun a ha => ch_mono pAB (ch_itP h a ha)
theorem ch_its {is : List Itm} (h : ∀ i ∈ is, ItOk i) : ChA pC (itsS is) := by
  unfold itsS
  split
  · exact ch_lit (by decide +kernel)
  · refine ch_join (ch_lit (by decide +kernel)) fun a ha => ?_
    obtain ⟨i, hi, rfl⟩ := List.mem_map.mp ha
    exact ch_mono pBC (ch_it (h i hi))
theorem ch_wd {w : Wd} (h : WdOk w) : ChA pA (wdS w) := by
  cases w with
  | sign s => exact ch_sg h
  | other => exact ch_lit (by decide +kernel)
  | fin => exact ch_lit (by decide +kernel)
theorem ch_ru {r : Ru} (h : RuOk r) : ChA pD (ruS r) := by
  have hn := h.nxt
  obtain ⟨s, wd, its, nx⟩ := r
  have up : ∀ {a : Str}, ChA pA a → ChA pD a := fun z => ch_mono pCD (ch_mono pBC (ch_mono pAB z))
  have e1 : ChA pD (sgS s ++ " " ++ wdS wd ++ ": " ++ itsS its) := ch_app (ch_app (ch_app (ch_app (up (ch_sg h.st)) (ch_lit (by decide +kernel))) (up (ch_wd h.wd))) (ch_lit (by decide +kernel))) (ch_mono pCD (ch_its h.its))
  cases nx with
  | none => exact e1
  | some n => exact ch_app (ch_app e1 (ch_lit (by decide +kernel))) (up (ch_sg hn))
theorem ch_no {p : Nat → Bool} {a : Str} {c : Nat} (h : ChA p a) (z : p c = false) : c ∉ TL.tl a := fun hc => by
  rw [h c hc] at z
  cases z
/-! ### it is read back -/
theorem sgOf_sg {i : Int} (h : OkS i) : sgOf (sgS i) = some i := by
  have all : ∀ n : Fin 100, sgOf (sgS (n.val : Int)) = some (n.val : Int) := by decide +kernel
  obtain ⟨n, rfl⟩ := Int.eq_ofNat_of_zero_le h.1
  exact all ⟨n, by have := h.2; omega⟩
theorem split_it {i : Itm} (h : ItOk i) : Txt.split (itS i) " " = itPS i := by
  rw [itS_eq]
  exact TL.split_join (s := 32) (S := []) (by decide +kernel) (by decide +kernel) (by cases i <;> simp [itPS]) fun p hp => ch_no (ch_itP h p hp) (by decide)
theorem itDr_it {i : Itm} (h : ItOk i) : itDr (itS i) = Itm.v i := by
  unfold itDr
  rw [split_it h]
  have n1 : ¬ (("plus" : Str) = "put") := by decide +kernel
  have n2 : ¬ (("own" : Str) = "put") := by decide +kernel
  cases i with
  | put xs =>
    show (if ("put" : Str) = "put" then D.tup [.str "put", .tup ((xs.map sgS).map fun s => oD (sgOf s))] else D.tup (.str "put" :: (xs.map sgS).map fun s => oD (sgOf s))) = _
    rw [if_pos rfl, List.map_map]
    have e : xs.map ((fun s => oD (sgOf s)) ∘ sgS) = xs.map D.int := List.map_congr_left fun k hk => by
      show oD (sgOf (sgS k)) = _
      rw [sgOf_sg (h.1 k hk)]
      rfl
    rw [e]
    rfl
  | plus k =>
    show (if ("plus" : Str) = "put" then D.tup [.str "plus", .tup [oD (sgOf (sgS k))]] else D.tup [.str "plus", oD (sgOf (sgS k))]) = _
    rw [if_neg n1, sgOf_sg h]
    rfl
  | own j k =>
    show (if ("own" : Str) = "put" then D.tup [.str "own", .tup [oD (sgOf (sgS j)), oD (sgOf (sgS k))]] else D.tup [.str "own", oD (sgOf (sgS j)), oD (sgOf (sgS k))]) = _
    rw [if_neg n2, sgOf_sg h.1, sgOf_sg h.2]
    rfl
theorem split_its {i : Itm} {is : List Itm} (h : ∀ x ∈ i :: is, ItOk x) : Txt.split (itsS (i :: is)) ", " = (i :: is).map itS :=
  TL.split_join (s := 44) (S := [32]) (by decide +kernel) (by decide +kernel) (by simp) fun p hp => by
    obtain ⟨x, hx, rfl⟩ := List.mem_map.mp hp
    exact ch_no (ch_it (h x hx)) (by decide)
theorem its_some {i : Itm} {is : List Itm} (h : ∀ x ∈ i :: is, ItOk x) : itsS (i :: is) ≠ "nothing" := fun e => by
  have z := split_its h
  rw [e, show Txt.split "nothing" ", " = ([("nothing" : Str)] : List Str) from by decide +kernel, List.map_cons] at z
  have z1 : itS i = "nothing" := (List.cons.inj z).1.symm
  have y := split_it (h i List.mem_cons_self)
  rw [z1, show Txt.split "nothing" " " = ([("nothing" : Str)] : List Str) from by decide +kernel] at y
  have l := congrArg List.length y
  cases i with
  | put xs =>
    have n : ¬ (("nothing" : Str) = "put") := by decide +kernel
    exact n (List.cons.inj y).1
  | plus k => exact absurd l (by simp [itPS])
  | own j k => exact absurd l (by simp [itPS])
theorem itsDr_its {is : List Itm} (h : ∀ x ∈ is, ItOk x) : itsDr (itsS is) = .tup (itsV is) := by
  cases is with
  | nil =>
    show (if ("nothing" : Str) = "nothing" then D.tup [] else _) = _
    rw [if_pos rfl]
    rfl
  | cons i is =>
    unfold itsDr
    rw [if_neg (its_some h), split_its h, List.map_map]
    congr 1
    exact List.map_congr_left fun x hx => itDr_it (h x hx)
theorem wdDr_wd {w : Wd} (h : WdOk w) (n : w ≠ .fin) : wdDr (wdS w) = Wd.v w := by
  cases w with
  | fin => exact absurd rfl n
  | other => exact if_pos rfl
  | sign s =>
    unfold wdDr
    have z : ¬ (wdS (.sign s) = "other") := fun e => by
      have y := sgOf_sg (show OkS s from h)
      rw [show sgS s = "other" from e, show sgOf "other" = none from by decide +kernel] at y
      cases y
    rw [if_neg z]
    show oD (sgOf (sgS s)) = _
    rw [sgOf_sg h]
    rfl
theorem wdS_end {w : Wd} (h : WdOk w) (e : wdS w = "end") : w = .fin := by
  cases w with
  | fin => rfl
  | other => exact absurd e (by decide +kernel)
  | sign s =>
    have y := sgOf_sg (show OkS s from h)
    rw [show sgS s = "end" from e, show sgOf "end" = none from by decide +kernel] at y
    cases y
theorem pre_at {l : List Nat} {i x y z : Nat} (h : TL.pre [x, y, z] (l.drop i) = true) : l[i + 1]? = some y := by
  have e : (l.drop i)[1]? = some y := by
    cases hd : l.drop i with
    | nil => rw [hd] at h; cases h
    | cons p r =>
      rw [hd] at h
      cases r with
      | nil => simp [TL.pre] at h
      | cons q r =>
        simp [TL.pre] at h
        simp [h.2.1]
  rw [List.getElem?_drop] at e
  exact e
theorem part_arrow {a b : Str} (h : 62 ∉ TL.tl a) : Txt.partition (a ++ " > " ++ b) " > " = ((a, (" > " : Str), b) : Str × Str × Str) := by
  have e : TL.tl " > " = [32, 62, 32] := by decide +kernel
  have hp : TL.par [32, 62, 32] [] (TL.tl a ++ ([32, 62, 32] ++ TL.tl b)) = some ([] ++ TL.tl a, TL.tl b) := TL.par_part (by simp) fun i hi => by
    cases hq : TL.pre [32, 62, 32] ((TL.tl a ++ ([32, 62, 32] ++ TL.tl b)).drop i) with
    | false => rfl
    | true =>
      exfalso
      have e2 : (TL.tl a ++ ([32, 62, 32] ++ TL.tl b))[i + 1]? = some 62 := pre_at hq
      by_cases c : i + 1 < (TL.tl a).length
      · rw [List.getElem?_append_left c] at e2
        exact h (List.mem_of_getElem? e2)
      · rw [List.getElem?_append_right (by omega), show i + 1 - (TL.tl a).length = 0 from by omega] at e2
        cases e2
  rw [TL.partition_par _ _ (by rw [e]; simp), TL.tl_append, TL.tl_append, e, List.append_assoc, hp]
  show ((⟨([] ++ TL.tl a).toArray⟩ : Str), (" > " : Str), (⟨(TL.tl b).toArray⟩ : Str)) = _
  rw [List.nil_append, TL.mk_tl, TL.mk_tl]
theorem part_at {a b : Str} {y : Str} {c : Nat} {S : List Nat} (ey : TL.tl y = c :: S) {p : Nat → Bool} (h : ChA p a) (z : p c = false) : Txt.partition (a ++ y ++ b) y = ((a, y, b) : Str × Str × Str) := TL.partition_app ey (ch_no h z)
theorem app_as (a b c : Str) : a ++ b ++ c = a ++ (b ++ c) := Str.append_assoc a b c
theorem ruDr_ru {r : Ru} (h : RuOk r) : ruDr (ruS r) = Ru.v r := by
  have hn := h.nxt
  have hx := h.nx
  obtain ⟨st, wd, its, nx⟩ := r
  have up : ∀ {a : Str}, ChA pA a → ChA pB a := fun z => ch_mono pAB z
  have hs : OkS st := h.st
  have hw : WdOk wd := h.wd
  have hi : ∀ i ∈ its, ItOk i := h.its
  have e1 : TL.tl ": " = [58, 32] := by decide +kernel
  have e2 : TL.tl " " = [32] := by decide +kernel
  have hd : ChA pB (sgS st ++ " " ++ wdS wd) := ch_app (ch_app (up (ch_sg hs)) (ch_lit (by decide +kernel))) (up (ch_wd hw))
  have p2 : Txt.partition (sgS st ++ " " ++ wdS wd) " " = ((sgS st, (" " : Str), wdS wd) : Str × Str × Str) := part_at e2 (ch_sg hs) (by decide)
  cases nx with
  | none =>
    obtain rfl : wd = .fin := by
      cases wd with
      | fin => rfl
      | other => exact hx.elim
      | sign _ => exact hx.elim
    have p1 : Txt.partition (ruS ⟨st, .fin, its, none⟩) ": " = ((sgS st ++ " " ++ wdS .fin, (": " : Str), itsS its) : Str × Str × Str) := part_at e1 hd (by decide)
    unfold ruDr
    rw [p1]
    show (if (Txt.partition (sgS st ++ " " ++ wdS .fin) " ").2.2 = "end" then D.tup [oD (sgOf (Txt.partition (sgS st ++ " " ++ wdS .fin) " ").1), .str "end", itsDr (itsS its), .non] else _) = _
    rw [p2]
    refine (if_pos (rfl : wdS Wd.fin = "end")).trans ?_
    show D.tup [oD (sgOf (sgS st)), .str "end", itsDr (itsS its), .non] = _
    rw [sgOf_sg hs, itsDr_its hi]
    rfl
  | some n =>
    have ne : ¬ (wdS wd = "end") := fun e => by
      have z := wdS_end hw e
      subst z
      exact hx.elim
    have p1 : Txt.partition (ruS ⟨st, wd, its, some n⟩) ": " = ((sgS st ++ " " ++ wdS wd, (": " : Str), itsS its ++ " > " ++ sgS n) : Str × Str × Str) := by
      have z : ruS ⟨st, wd, its, some n⟩ = (sgS st ++ " " ++ wdS wd) ++ ": " ++ (itsS its ++ " > " ++ sgS n) := by
        show sgS st ++ " " ++ wdS wd ++ ": " ++ itsS its ++ " > " ++ sgS n = _
        rw [app_as (sgS st ++ " " ++ wdS wd ++ ": "), app_as (sgS st ++ " " ++ wdS wd ++ ": "), app_as (itsS its)]
      rw [z]
      exact part_at e1 hd (by decide)
    have p3 : Txt.partition (itsS its ++ " > " ++ sgS n) " > " = ((itsS its, (" > " : Str), sgS n) : Str × Str × Str) := part_arrow (ch_no (ch_its hi) (by decide))
    unfold ruDr
    rw [p1]
    show (if (Txt.partition (sgS st ++ " " ++ wdS wd) " ").2.2 = "end" then _ else D.tup [oD (sgOf (Txt.partition (sgS st ++ " " ++ wdS wd) " ").1), wdDr (Txt.partition (sgS st ++ " " ++ wdS wd) " ").2.2, itsDr (Txt.partition (itsS its ++ " > " ++ sgS n) " > ").1, oD (sgOf (Txt.partition (itsS its ++ " > " ++ sgS n) " > ").2.2)]) = _
    rw [p2, p3, if_neg ne]
    show D.tup [oD (sgOf (sgS st)), wdDr (wdS wd), itsDr (itsS its), oD (sgOf (sgS n))] = _
    rw [sgOf_sg hs, itsDr_its hi, sgOf_sg (show OkS n from hn), wdDr_wd hw (fun z => by subst z; exact hx.elim)]
    rfl
theorem stOf_start {s : Int} (h : OkS s) : stOf ("start " ++ sgS s) = some s := by
  have z : ("start " : Str) ++ sgS s = "start" ++ " " ++ sgS s := by
    rw [show ("start " : Str) = "start" ++ " " from by decide +kernel]
  have p1 : Txt.partition ("start" ++ " " ++ sgS s) " " = ((("start" : Str), (" " : Str), sgS s) : Str × Str × Str) := part_at (c := 32) (S := []) (p := pA) (by decide +kernel) (ch_lit (by decide +kernel)) (by decide)
  unfold stOf
  rw [z, p1, if_pos rfl]
  exact sgOf_sg h
theorem rows_bo {s : Int} {rs : List Ru} (hs : OkS s) (h : RusOk rs) : Txt.split (boS s rs) "\n" = ("start " ++ sgS s) :: rs.map ruS :=
  TL.split_join (s := 10) (S := []) (by decide +kernel) (by decide +kernel) (by simp) fun p hp => by
    rcases List.mem_cons.mp hp with rfl | hp
    · exact ch_no (p := pB) (ch_app (ch_lit (by decide +kernel)) (ch_mono pAB (ch_sg hs))) (by decide)
    · obtain ⟨r, hr, rfl⟩ := List.mem_map.mp hp
      exact ch_no (ch_ru (h r hr)) (by decide)
/-! ### one or two digits -/
theorem int_some {a : Str} (h1 : Txt.isascii a = true) (h2 : Txt.isdigit a = true) (h3 : a.length ≤ 2) : ∃ n : Int, PySem.intText? a = some n ∧ 0 ≤ n ∧ n < 100 := by
  obtain ⟨⟨l⟩⟩ := a
  have g1 : ∀ x ∈ l, x < 128 := fun x hx => by
    have z : (l.all (· < 128)) = true := by rw [← List.all_toArray]; exact h1
    exact of_decide_eq_true (List.all_eq_true.mp z x hx)
  unfold Txt.isdigit at h2
  rw [Bool.and_eq_true] at h2
  have g2 : ∀ x ∈ l, Unicode.isDigit x = true := fun x hx => by
    have z : (l.all Unicode.isDigit) = true := by rw [← List.all_toArray]; exact h2.2
    exact List.all_eq_true.mp z x hx
  have dig : ∀ x : Fin 128, Unicode.isDigit x.val = true → 48 ≤ x.val ∧ x.val < 58 := by decide +kernel
  have g3 : ∀ x ∈ l, ∃ k : Fin 10, x = 48 + k.val := fun x hx => by
    obtain ⟨y1, y2⟩ := dig ⟨x, g1 x hx⟩ (g2 x hx)
    exact ⟨⟨x - 48, by have y2 : x < 58 := y2; omega⟩, by have y1 : 48 ≤ x := y1; show x = 48 + (x - 48); omega⟩
  have l3 : l.length ≤ 2 := h3
  have l0 : 0 < l.length := of_decide_eq_true h2.1
  have one : ∀ k : Fin 10, ∃ n : Int, PySem.intText? (⟨#[48 + k.val]⟩ : Str) = some n ∧ 0 ≤ n ∧ n < 100 := fun k => ⟨k.val, by revert k; decide +kernel, by omega, by omega⟩
  have two : ∀ k m : Fin 10, PySem.intText? (⟨#[48 + k.val, 48 + m.val]⟩ : Str) = some ((10 * k.val + m.val : Nat) : Int) := by decide +kernel
  rcases l with _ | ⟨x, _ | ⟨y, _ | ⟨z, l⟩⟩⟩
  · exact absurd l0 (by simp)
  · obtain ⟨k, rfl⟩ := g3 x (by simp)
    exact one k
  · obtain ⟨k, rfl⟩ := g3 x (by simp)
    obtain ⟨m, rfl⟩ := g3 y (by simp)
    exact ⟨_, two k m, by omega, by omega⟩
  · exact absurd l3 (by simp)
theorem sgOf_no {a : Str} (h : (Txt.isascii a && (Txt.isdigit a && decide (a.length ≤ 2))) = false) : sgOf a = none := if_neg (by rw [h]; decide)
theorem sgOf_eq {a : Str} {n : Int} (h : (Txt.isascii a && (Txt.isdigit a && decide (a.length ≤ 2))) = true) (e : PySem.intText? a = some n) : sgOf a = if (toString n : Str) = a then some n else none := by
  unfold sgOf
  rw [if_pos h, e]
  rfl
def sdReadS : SpD := fun ws S Q _ => ∃ a, ws = [.dat (.str a)] ∧ a.length ≤ 1000000 ∧ Q (.dat (oD (sgOf a))) S
def sdReadW : SpD := fun ws S Q _ => ∃ a, ws = [.dat (.str a)] ∧ a.length ≤ 1000000 ∧ Q (.dat (wdDr a)) S
def sdReadI : SpD := fun ws S Q _ => ∃ a, ws = [.dat (.str a)] ∧ a.length ≤ 1000000 ∧ Q (.dat (itDr a)) S
def sdReadIs : SpD := fun ws S Q _ => ∃ a, ws = [.dat (.str a)] ∧ a.length ≤ 1000000 ∧ Q (.dat (itsDr a)) S
def sdReadR : SpD := fun ws S Q _ => ∃ a, ws = [.dat (.str a)] ∧ a.length ≤ 1000000 ∧ Q (.dat (ruDr a)) S
def sdReadSt : SpD := fun ws S Q _ => ∃ a, ws = [.dat (.str a)] ∧ a.length ≤ 1000000 ∧ Q (.dat (oD (stOf a))) S
theorem sum_mem {l : List Nat} {x : Nat} (h : x ∈ l) : x ≤ l.sum := by
  induction l with
  | nil => cases h
  | cons y l ih =>
    rw [List.sum_cons]
    rcases List.mem_cons.mp h with rfl | h
    · omega
    · have := ih h
      omega
theorem split_mem {a y s : Str} (hy : 1 ≤ y.length) (h : s ∈ Txt.split a y) : s.length ≤ a.length := by
  have z := PyProof.Rows.split_weight a y hy
  have w : s.length ≤ ((Txt.split a y).map (·.length)).sum := sum_mem (List.mem_map.mpr ⟨s, h, rfl⟩)
  have l := PyProof.Rows.split_pos a y
  omega
theorem part_len (a y : Str) : (Txt.partition a y).1.length ≤ a.length ∧ (Txt.partition a y).2.2.length ≤ a.length := by
  have z := congrArg Str.length (PySem.StrLaws.partition_sum a y)
  rw [strLen_append, strLen_append] at z
  omega
def sdReadB (c : Addr) : SpD := fun ws S Q E => ∃ d, ws = [.dat d] ∧ noCon d = true ∧ ((isiD d "str" = false ∧ E c (.int (-1)) S) ∨ ∃ (a r0 : Str) (rest : List Str), d = .str a ∧ a.length ≤ 1000000 ∧ Txt.split a "\n" = r0 :: rest ∧
  ((stOf r0 = none ∧ E c (.int 0) S) ∨ ∃ (s : Int) (us : List Ru), stOf r0 = some s ∧ (0 ≤ s ∧ s < 100) ∧ RusOk us ∧ us.length ≤ 1000 ∧
    ((rest.map ruDr = us.map Ru.v ∧ Q (.dat (iv (bodyI s us))) S) ∨
     (∃ r, rest[us.length]? = some r ∧ (rest.take us.length).map ruDr = us.map Ru.v ∧ Sh 60 (ruDr r) ∧ ruD (ruDr r) = false ∧ E c (.int (1 + (us.length : Nat))) S))))
theorem rt_e {S S1 : Own} {E : Addr → D → Own → Prop} {c : Addr} {d : D} (g : Gp S S1) (e : E c d S) : E c d (S1.take S.length) := by
  rw [g]
  exact e
theorem ruV_ok {u : Ru} (h : RuOk u) : ruD (Ru.v u) = true := by
  have z := ruD_ok (b := false) (c := false) h
  rw [Ru.vl_f] at z
  exact z
theorem sh_ruV (u : Ru) : Sh 60 (Ru.v u) := by
  have z := sh_ruL false false u
  rw [Ru.vl_f] at z
  exact z.le (by decide)
def sdWriteB : SpD := fun ws S Q _ => ∃ (b : Bool) (bs : List Int), ws = [.dat (sq b (bs.map D.int))] ∧ Sgn bs ∧ bs.length ≤ 1000000 ∧ Q (.dat (.str (boS (bs.headD 0) (rulesOf bs.length (bs.drop 1)).1))) S
theorem head_ok {bs : List Int} (h : Sgn bs) : OkS (bs.headD 0) := by
  cases bs with
  | nil => exact ⟨Int.le_refl _, by decide⟩
  | cons x r => exact h x List.mem_cons_self
theorem boS_len {s : Int} {rs : List Ru} (hs : OkS s) (h : RusOk rs) : (boS s rs).length ≤ 10 + 9 * (rusI rs).length := by
  have a := join_le "\n" (("start " ++ sgS s) :: rs.map ruS)
  have b := rusS_sum h
  have c := rusI_len1 (rs := rs)
  have d := sgS_len hs
  have o0 : ("start " : Str).length = 6 := by decide
  have o1 : ("\n" : Str).length = 1 := by decide
  rw [o1, List.map_cons, List.sum_cons, List.length_cons, List.length_map, strLen_append, o0] at a
  show (Txt.join "\n" (("start " ++ sgS s) :: rs.map ruS)).length ≤ _
  omega
theorem ruDr_map {rs : List Ru} (h : RusOk rs) : (rs.map ruS).map ruDr = rs.map Ru.v := by
  rw [List.map_map]
  exact List.map_congr_left fun r hr => ruDr_ru (h r hr)
theorem rusI_len5 : ∀ {rs : List Ru}, (∀ r ∈ rs, (ruI r).length ≤ 5) → (rusI rs).length ≤ rs.length * 5
  | [], _ => Nat.zero_le _
  | r :: rs, h => by
    have a := h r List.mem_cons_self
    have b := rusI_len5 (rs := rs) fun x hx => h x (List.mem_cons_of_mem _ hx)
    show (ruI r ++ rusI rs).length ≤ _
    rw [List.length_append, List.length_cons]
    omega
/-- the k-th rule of a long body -/
def lrU (k : Int) : Ru := ⟨k % 100, .sign (k * 7 % 100), [], some ((k + 1) % 100)⟩
theorem lrU_ok (k : Int) : RuOk (lrU k) := by
  have z : ∀ x : Int, 0 ≤ x % 100 ∧ x % 100 < 100 := fun x => ⟨Int.emod_nonneg _ (by decide), Int.emod_lt_of_pos _ (by decide)⟩
  exact ⟨z _, z _, (fun _ h => nomatch h), Nat.zero_le _, z _⟩
theorem rusI_app (a b : List Ru) : rusI (a ++ b) = rusI a ++ rusI b := by
  unfold rusI
  rw [List.map_append, List.flatten_append]
/-- a slot with a number, or with nothing yet -/
def oI (y : Option Int) : Option W := y.map fun i => .dat (.int i)
theorem sub_oI {k : Nat} {ob : Ob} {y : Option Int} : sub k ob (oI y) = oI y := by cases y <;> rfl
end Va

set_option maxRecDepth 100000
set_option maxHeartbeats 2000000
namespace Va
open PySem PySem.Spec PyProof.Rows L2 Fd

/-! ### what is read from a row, written again, is the row -/
theorem itemOf_sum {r r' : List Int} {it : Itm} (hs : Sgn r) (h : itemOf r = some (it, r')) : itI it ++ r' = r := by
  unfold itemOf at h
  split at h
  · rename_i n r0
    split at h
    · rename_i hn
      cases h
      have h0 := (hs n (by simp)).1
      show (0 : Int) :: ((r0.take n.toNat).length : Int) :: (r0.take n.toNat ++ r0.drop n.toNat) = _
      rw [List.take_append_drop, List.length_take, Nat.min_eq_left hn, show ((n.toNat : Nat) : Int) = n from by omega]
    · cases h
  · cases h
    rfl
  · cases h
    rfl
  · cases h
theorem itemsOf_sum : ∀ {n : Nat} {r r' : List Int} {is : List Itm}, Sgn r → itemsOf n r = some (is, r') → itsI is ++ r' = r
  | 0, r, r', is, _, h => by
    cases h
    rfl
  | n + 1, r, r', is, hs, h => by
    unfold itemsOf at h
    cases e : itemOf r with
    | none => rw [e] at h; cases h
    | some p =>
      rw [e] at h
      cases e2 : itemsOf n p.2 with
      | none => rw [Option.bind_some, e2] at h; cases h
      | some q =>
        rw [Option.bind_some, e2] at h
        cases h
        have z := itemsOf_sum (Sgn.suf hs (itemOf_suffix e)) e2
        show (itI p.1 ++ itsI q.1) ++ q.2 = r
        rw [List.append_assoc, z]
        exact itemOf_sum hs e
theorem wordOf_sum {r r' : List Int} {w : Wd} (h : wordOf r = some (w, r')) : wdI w ++ r' = r := by
  unfold wordOf at h
  split at h <;> first | (cases h; rfl) | cases h
theorem ruleOf_sum {r r' : List Int} {u : Ru} (hs : Sgn r) (h : ruleOf r = some (u, r')) : ruI u ++ r' = r := by
  cases r with
  | nil => cases h
  | cons s r =>
  have hs1 : Sgn r := Sgn.suf hs (List.suffix_cons _ _)
  have h : (wordOf r).bind (fun p => (itemsAt p.2).bind fun q => ruleEnd s p.1 q.1 q.2) = some (u, r') := h
  obtain ⟨⟨w, r2⟩, e1, h⟩ := Option.bind_eq_some_iff.mp h
  obtain ⟨⟨its, r3⟩, e2, h⟩ := Option.bind_eq_some_iff.mp h
  have z1 := wordOf_sum e1
  have hs2 := Sgn.suf hs1 (wordOf_suffix e1)
  have z2 : ((its.length : Nat) : Int) :: (itsI its ++ r3) = r2 := by
    cases r2 with
    | nil => cases e2
    | cons n r2 =>
      have e2 : itemsOf n.toNat r2 = some (its, r3) := e2
      have hn := hs2 n List.mem_cons_self
      have l := (itemsOf_ok (Sgn.suf hs2 (List.suffix_cons _ _)) e2).2.1
      rw [itemsOf_sum (Sgn.suf hs2 (List.suffix_cons _ _)) e2, l, show ((n.toNat : Nat) : Int) = n from by omega]
  have fin : ∀ (nx : Option Int) (r4 : List Int), nxI nx ++ r4 = r3 → ruI ⟨s, w, its, nx⟩ ++ r4 = s :: r := fun nx r4 e => by
    show s :: ((wdI w ++ (((its.length : Nat) : Int) :: (itsI its ++ nxI nx))) ++ r4) = _
    rw [List.append_assoc, List.cons_append, List.append_assoc, e, z2, z1]
  cases w with
  | fin =>
    cases h
    exact fin none _ rfl
  | sign x =>
    cases r3 with
    | nil => cases h
    | cons f r4 =>
      cases h
      exact fin (some f) _ rfl
  | other =>
    cases r3 with
    | nil => cases h
    | cons f r4 =>
      cases h
      exact fin (some f) _ rfl
theorem rulesOf_sum : ∀ {n : Nat} {r : List Int}, Sgn r → rusI (rulesOf n r).1 ++ (rulesOf n r).2 = r
  | 0, r, _ => rfl
  | n + 1, r, hs => by
    cases e : ruleOf r with
    | none =>
      rw [rulesOf_stop e]
      rfl
    | some p =>
      obtain ⟨u, r2⟩ := p
      rw [rulesOf_step e]
      have hs2 : Sgn r2 := by
        have z := ruleOf_sum hs e
        exact fun x hx => hs x (by rw [← z]; exact List.mem_append_right _ hx)
      show (ruI u ++ rusI (rulesOf n r2).1) ++ (rulesOf n r2).2 = r
      rw [List.append_assoc, rulesOf_sum hs2]
      exact ruleOf_sum hs e
/-- a row that is not empty: its body, then its tail -/
theorem row_sum {x : Int} {r : List Int} (hs : Sgn (x :: r)) : bodyI ((x :: r).headD 0) (rulesOf (x :: r).length ((x :: r).drop 1)).1 ++ (rulesOf (x :: r).length ((x :: r).drop 1)).2 = x :: r := by
  show x :: (rusI (rulesOf (x :: r).length r).1 ++ (rulesOf (x :: r).length r).2) = _
  rw [rulesOf_sum (Sgn.suf hs (List.suffix_cons _ _))]
/-! ### things -/
theorem tup_no {O : List Addr} {S : Own} {H : Hp} (st : StoreOk O H S) {z : Addr} {ys : List V} (hz : H z = some (.tup ys)) : ¬ Lv O S z := fun ⟨k, ob, h1, h2⟩ => by
  obtain ⟨a', h3, h4⟩ := st.ob k ob h2
  rw [h1] at h3
  cases h3
  exact h4.no hz (fun _ z => nomatch z) (fun _ _ _ z => nomatch z) (fun _ z => nomatch z) (fun _ z => nomatch z)
def sdThingOf : SpD := fun ws S Q _ => ∃ (f n : Int) (b : Bool) (bs : List Int), ws = [.dat (.int f), .dat (.int n), .dat (sq b (bs.map D.int))] ∧ (0 ≤ f ∧ f < 5) ∧ OkS n ∧ Sgn bs ∧ bs.length ≤ 1000000 ∧ Q (.dat (iv (thg f n bs))) S
def sdBodyOf : SpD := fun ws S Q _ => ∃ (f n : Int) (bs : List Int), ws = [.dat (iv (thg f n bs))] ∧ (0 ≤ f ∧ f < 5) ∧ OkS n ∧ Sgn bs ∧ bs.length ≤ 900000 ∧ Q (.dat (iv bs)) S
section
variable {P : Program} {w : World} {K : PySem.W.Frag} {mg : Str → Option Value} {base : Heap}
theorem sq_da {O : List Addr} {S : Own} {H : Hp} {v : V} {b : Bool} {bs : List Int} (r : Dv (Fz O S H) v (sq b (bs.map D.int))) : Da K H v (if b then .list (bs.map PyData.int) else .tuple (bs.map PyData.int)) := by
  have z := Dv.da (K := K) (fun a o (h : Fz O S H a o) => h.1) _ _ r (by cases b <;> (show pure' _ = true) <;> (first | rw [sq] | skip) <;> rw [pure'] <;> exact (sh_all (sh_ints bs)).1)
  cases b
  · have e : py (sq false (bs.map D.int)) = .tuple (bs.map PyData.int) := by
      show py (.tup _) = _
      rw [py, pys_ints]
    rw [e] at z
    exact z
  · have e : py (sq true (bs.map D.int)) = .list (bs.map PyData.int) := by
      show py (.lst _) = _
      rw [py, pys_ints]
    rw [e] at z
    exact z
theorem thing_v {CF CS CR : Addr} {k : Nat} {x : Str} {ps : List Str} (C : Fd.Pr P w K mg base k x ps (spThingOf K CF CS CR)) : Fd.Pr P w K mg base k x ps (lift sdThingOf) := by
  obtain ⟨fa, fd, g, kp, b, F⟩ := C.ex
  refine ⟨fa, fd, g, kp, b, F.imp ?_⟩
  rintro vs H Q E ⟨O, S, ws, Qd, Ed, st, rs, ⟨f, n, bb, bs, rfl, hf, hn, hs, hl, q⟩, L, _⟩
  cases rs with
  | cons r1 rs =>
  obtain ⟨v2, v3, rfl, r2, r3⟩ := rs.two
  cases r1
  cases r2
  have hd := sq_da (K := K) r3
  have e3 : ∀ c : Bool, dRow (if c then .list (bs.map PyData.int) else .tuple (bs.map PyData.int)) = true ∧ dInts (if c then .list (bs.map PyData.int) else .tuple (bs.map PyData.int)) = bs ∧ (dItems (if c then .list (bs.map PyData.int) else .tuple (bs.map PyData.int))).length = bs.length := fun c => by
    cases c
    · exact ⟨dRow_tup hs, dInts_tup bs, List.length_map ..⟩
    · exact ⟨dRow_lst hs, dInts_lst bs, List.length_map ..⟩
  obtain ⟨e3, e4, e5⟩ := e3 bb
  have e1 : dForm (.int f) = true := by
    show (decide (0 ≤ f) && decide (f < 5)) = true
    rw [decide_eq_true hf.1, decide_eq_true hf.2]
    rfl
  have e2 : dSign (.int n) = true := by
    show (decide (0 ≤ n) && decide (n < 100)) = true
    rw [decide_eq_true hn.1, decide_eq_true hn.2]
    rfl
  refine spThingOf_of (d1 := .int f) (d2 := .int n) (.int _) (.int _) hd (by rw [e5]; exact hl) (fun _ _ _ p H' s e => ?_) (fun z => ?_) (fun _ z => ?_) (fun _ _ z => ?_)
  · obtain ⟨k1, k2⟩ := own_keep st s
    rw [e4] at e
    exact L.q _ S O _ H' q k2 k1 (Dv.tup ⟨e, tup_no k1 e⟩ (.ints _))
  · rw [e1] at z; cases z
  · rw [e2] at z; cases z
  · rw [e3] at z; cases z
theorem body_v {CT : Addr} {k : Nat} {x : Str} {ps : List Str} (C : Fd.Pr P w K mg base k x ps (spBodyOf K CT)) : Fd.Pr P w K mg base k x ps (lift sdBodyOf) := by
  obtain ⟨fa, fd, g, kp, b, F⟩ := C.ex
  refine ⟨fa, fd, g, kp, b, F.imp ?_⟩
  rintro vs H Q E ⟨O, S, ws, Qd, Ed, st, rs, ⟨f, n, bs, rfl, hf, hn, hs, hl, q⟩, L, _⟩
  obtain ⟨v, rfl, r⟩ := rs.one
  have hd := sq_da (K := K) (b := false) (bs := thg f n bs) r
  have ht := dThing_thg (bs := bs) hf.1 hf.2 hn.1 hn.2
  refine spBodyOf_of (d := .tuple ((thg f n bs).map PyData.int)) hd (by show ((thg f n bs).map PyData.int).length ≤ _; rw [List.length_map, thg_len]; omega) (fun _ p H' s e => ?_) (fun z => ?_)
  · obtain ⟨k1, k2⟩ := own_keep st s
    have eb : dBody (.tuple ((thg f n bs).map PyData.int)) = bs := by
      unfold dBody dFst
      rw [dInts_tup]
      exact shift_back hs
    rw [eb] at e
    exact L.q _ S O _ H' q k2 k1 (Dv.tup ⟨e, tup_no k1 e⟩ (.ints _))
  · rw [ht] at z; cases z
end
theorem ruI_len3 {r : Ru} (h : RuOk r) (f : r.items.length ≤ 3) : (ruI r).length ≤ 309 := by
  have z := itsI_len h.its
  have hn := h.nx
  obtain ⟨s, wd, its, nx⟩ := r
  have f : its.length ≤ 3 := f
  have z : (itsI its).length ≤ its.length * 101 := z
  have w : (wdI wd).length ≤ 2 := by cases wd <;> simp [wdI]
  have y : (nxI nx).length ≤ 1 := by cases nx <;> simp [nxI]
  show (s :: (wdI wd ++ (((its.length : Nat) : Int) :: (itsI its ++ nxI nx)))).length ≤ 309
  simp only [List.length_cons, List.length_append]
  omega
theorem rusI_len3 : ∀ {rs : List Ru}, RusOk rs → (∀ r ∈ rs, r.items.length ≤ 3) → (rusI rs).length ≤ rs.length * 309
  | [], _, _ => Nat.zero_le _
  | r :: rs, h, f => by
    have a := ruI_len3 (h r List.mem_cons_self) (f r List.mem_cons_self)
    have b := rusI_len3 (rs := rs) (fun x hx => h x (List.mem_cons_of_mem _ hx)) fun x hx => f x (List.mem_cons_of_mem _ hx)
    show (ruI r ++ rusI rs).length ≤ _
    rw [List.length_append, List.length_cons]
    omega
theorem rusI_few : ∀ {rs : List Ru}, 3 * rs.length ≤ (rusI rs).length
  | [] => Nat.zero_le _
  | r :: rs => by
    have b := rusI_few (rs := rs)
    have w : 1 ≤ (wdI r.word).length := by cases r.word <;> simp [wdI]
    have a : 3 ≤ (ruI r).length := by
      show 3 ≤ (r.stand :: (wdI r.word ++ (((r.items.length : Nat) : Int) :: (itsI r.items ++ nxI r.next)))).length
      simp only [List.length_cons, List.length_append]
      omega
    show _ ≤ (ruI r ++ rusI rs).length
    rw [List.length_append, List.length_cons]
    omega
end Va

set_option maxRecDepth 100000
set_option maxHeartbeats 2000000
namespace Va
open PySem PySem.Spec PyProof.Rows L2 Fd

/-! ### rules that may be a little too great: what holds of their texts -/
def ItW : Itm → Prop
  | .put xs => Sgn xs ∧ xs.length ≤ 101
  | .plus k => 0 ≤ k ∧ k < 100
  | .own j k => (0 ≤ j ∧ j < 100) ∧ (0 ≤ k ∧ k < 100)
theorem ItOk.w {i : Itm} (h : ItOk i) : ItW i := by
  cases i with
  | put xs => exact ⟨h.1, Nat.le_trans h.2 (by decide)⟩
  | plus k => exact h
  | own j k => exact h
structure RuW (r : Ru) : Prop where
  st : 0 ≤ r.stand ∧ r.stand < 100
  wd : WdOk r.word
  its : ∀ i ∈ r.items, ItW i
  few : r.items.length ≤ 101
  nx : match r.word, r.next with | .fin, none => True | .fin, some _ => False | _, none => False | _, some n => 0 ≤ n ∧ n < 100
theorem RuOk.w {r : Ru} (h : RuOk r) : RuW r := ⟨h.st, h.wd, fun i hi => (h.its i hi).w, Nat.le_trans h.few (by decide), h.nx⟩
def RusW (rs : List Ru) : Prop := ∀ r ∈ rs, RuW r
theorem RusOk.w {rs : List Ru} (h : RusOk rs) : RusW rs := fun r hr => (h r hr).w
theorem RuW.nxt {r : Ru} (h : RuW r) : OkN r.next := by
  obtain ⟨s, wd, its, nx⟩ := r
  have z := h.nx
  cases nx with
  | none => trivial
  | some n =>
    cases wd with
    | fin => exact z.elim
    | other => exact z
    | sign _ => exact z
def sdItemTW : SpD := fun ws S Q _ => ∃ i, ws = [.dat (Itm.v i)] ∧ ItW i ∧ Q (.dat (.str (itS i))) S
theorem itP_getW {i : Itm} (h : ItW i) {j : Nat} {d : D} (e : (itP i)[j]? = some d) : ∃ t, (itPS i)[j]? = some t ∧ ((∃ k, d = .int k ∧ OkS k ∧ t = sgS k) ∨ d = .str t) := by
  cases i with
  | put xs =>
    cases j with
    | zero => cases e; exact ⟨_, rfl, .inr rfl⟩
    | succ j =>
      have e : (xs.map D.int)[j]? = some d := e
      rw [List.getElem?_map] at e
      cases c : xs[j]? with
      | none => rw [c] at e; cases e
      | some k =>
        rw [c] at e
        cases e
        refine ⟨sgS k, ?_, .inl ⟨k, rfl, h.1 k (List.mem_of_getElem? c), rfl⟩⟩
        show (xs.map sgS)[j]? = _
        rw [List.getElem?_map, c]
        rfl
  | plus k =>
    match j, e with
    | 0, e => cases e; exact ⟨_, rfl, .inr rfl⟩
    | 1, e => cases e; exact ⟨_, rfl, .inl ⟨k, rfl, h, rfl⟩⟩
    | j + 2, e => simp [itP] at e
  | own a b =>
    match j, e with
    | 0, e => cases e; exact ⟨_, rfl, .inr rfl⟩
    | 1, e => cases e; exact ⟨_, rfl, .inl ⟨a, rfl, h.1, rfl⟩⟩
    | 2, e => cases e; exact ⟨_, rfl, .inl ⟨b, rfl, h.2, rfl⟩⟩
    | j + 3, e => simp [itP] at e
theorem itP_lenW {i : Itm} (h : ItW i) : (itP i).length ≤ 102 := by
  cases i with
  | put xs => have := h.2; simp [itP]; omega
  | plus k => simp [itP]
  | own a b => simp [itP]
theorem itPS_sumW {i : Itm} (h : ItW i) : ((itPS i).map (·.length)).sum ≤ 408 := by
  have z : ∀ x ∈ (itPS i).map (·.length), x ≤ 4 := fun x hx => by
    obtain ⟨t, ht, rfl⟩ := List.mem_map.mp hx
    obtain ⟨j, hj⟩ := List.mem_iff_getElem?.mp ht
    have hjl : j < (itP i).length := by
      rw [← itPS_len]
      exact (List.getElem?_eq_some_iff.mp hj).1
    obtain ⟨u, hu, hd⟩ := itP_getW h (List.getElem?_eq_getElem hjl)
    rw [hj] at hu
    cases hu
    rcases hd with ⟨k, _, hk, rfl⟩ | hd
    · have := sgS_len hk
      show (sgS k).length ≤ 4
      omega
    · have m : (itP i)[j] ∈ itP i := List.getElem_mem _
      rw [hd] at m
      cases i with
      | put xs =>
        rcases List.mem_cons.mp m with m | m
        · cases m
          show ("put" : Str).length ≤ 4
          decide
        · obtain ⟨_, _, m⟩ := List.mem_map.mp m
          cases m
      | plus k =>
        simp [itP] at m
        subst m
        show ("plus" : Str).length ≤ 4
        decide
      | own a b =>
        simp [itP] at m
        subst m
        show ("own" : Str).length ≤ 4
        decide
  have y := sum_le z
  have l := itP_lenW h
  rw [List.length_map, itPS_len] at y
  omega
theorem itS_lenW {i : Itm} (h : ItW i) : (itS i).length ≤ 510 := by
  have a := join_le " " (itPS i)
  have b := itPS_sumW h
  have c := itP_lenW h
  have o : (" " : Str).length = 1 := by decide
  rw [← itS_eq, itPS_len, o] at a
  omega
theorem itsS_lenW {is : List Itm} (h : ∀ i ∈ is, ItW i) (l : is.length ≤ 101) : (itsS is).length ≤ 65000 := by
  unfold itsS
  split
  · decide
  · have a := join_le ", " (is.map itS)
    have o : (", " : Str).length = 2 := by decide
    have z : ((is.map itS).map (·.length)).sum ≤ ((is.map itS).map (·.length)).length * 510 := sum_le fun x hx => by
      obtain ⟨t, ht, rfl⟩ := List.mem_map.mp hx
      obtain ⟨i, hi, rfl⟩ := List.mem_map.mp ht
      exact itS_lenW (h i hi)
    rw [o] at a
    simp only [List.length_map] at a z
    omega
def sdItemsTW : SpD := fun ws S Q _ => ∃ is, ws = [.dat (.tup (itsV is))] ∧ (∀ i ∈ is, ItW i) ∧ is.length ≤ 101 ∧ Q (.dat (.str (itsS is))) S
def sdRuleTW : SpD := fun ws S Q _ => ∃ r, ws = [.dat (Ru.v r)] ∧ RuW r ∧ Q (.dat (.str (ruS r))) S
theorem ok_itW {i : Itm} (h : ItW i) : PyData.strOk (itS i) = true := by
  rw [itS_eq]
  refine ok_join (by decide +kernel) fun p hp => ?_
  cases i with
  | put xs =>
    rcases List.mem_cons.mp hp with rfl | hp
    · decide +kernel
    · obtain ⟨k, hk, rfl⟩ := List.mem_map.mp hp
      exact ok_sg (h.1 k hk)
  | plus k =>
    rcases List.mem_cons.mp hp with rfl | hp
    · decide +kernel
    · rw [List.mem_singleton.mp hp]
      exact ok_sg h
  | own a b =>
    rcases List.mem_cons.mp hp with rfl | hp
    · decide +kernel
    rcases List.mem_cons.mp hp with rfl | hp
    · exact ok_sg h.1
    · rw [List.mem_singleton.mp hp]
      exact ok_sg h.2
theorem itPS_sum4W {i : Itm} (h : ItW i) : ((itPS i).map (·.length)).sum + (itPS i).length ≤ 4 * (itI i).length := by
  cases i with
  | put xs =>
    have o : ("put" : Str).length = 3 := by decide
    have z : ((xs.map sgS).map (·.length)).sum ≤ ((xs.map sgS).map (·.length)).length * 2 := sum_le fun x hx => by
      obtain ⟨t, ht, rfl⟩ := List.mem_map.mp hx
      obtain ⟨k, hk, rfl⟩ := List.mem_map.mp ht
      exact sgS_len (h.1 k hk)
    simp only [List.length_map] at z
    show ("put" : Str).length + ((xs.map sgS).map (·.length)).sum + (xs.map sgS).length.succ ≤ 4 * (xs.length + 2)
    rw [List.length_map, o]
    omega
  | plus k =>
    have o : ("plus" : Str).length = 4 := by decide
    have z := sgS_len (show OkS k from h)
    show ("plus" : Str).length + ((sgS k).length + 0) + 2 ≤ 4 * 2
    rw [o]
    omega
  | own a b =>
    have o : ("own" : Str).length = 3 := by decide
    have z := sgS_len (show OkS a from h.1)
    have y := sgS_len (show OkS b from h.2)
    show ("own" : Str).length + ((sgS a).length + ((sgS b).length + 0)) + 3 ≤ 4 * 3
    rw [o]
    omega
theorem itS_len4W {i : Itm} (h : ItW i) : (itS i).length ≤ 4 * (itI i).length := by
  have a := join_le " " (itPS i)
  have b := itPS_sum4W h
  have o : (" " : Str).length = 1 := by decide
  rw [← itS_eq, o] at a
  omega
theorem itsS_sumW : ∀ {is : List Itm}, (∀ i ∈ is, ItW i) → ((is.map itS).map (·.length)).sum + is.length * 2 ≤ 5 * (itsI is).length
  | [], _ => Nat.zero_le _
  | i :: is, h => by
    have a := itS_len4W (h i List.mem_cons_self)
    have b := itsS_sumW (is := is) fun j hj => h j (List.mem_cons_of_mem _ hj)
    have c : 2 ≤ (itI i).length := by cases i <;> simp [itI]
    show (itS i).length + ((is.map itS).map (·.length)).sum + (is.length + 1) * 2 ≤ 5 * (itI i ++ itsI is).length
    rw [List.length_append]
    omega
theorem itsS_len5W {is : List Itm} (h : ∀ i ∈ is, ItW i) : (itsS is).length ≤ 7 + 5 * (itsI is).length := by
  unfold itsS
  split
  · have o : ("nothing" : Str).length = 7 := by decide
    rw [o]
    omega
  · have a := join_le ", " (is.map itS)
    have b := itsS_sumW h
    have o : (", " : Str).length = 2 := by decide
    rw [o, List.length_map] at a
    omega
theorem ruS_len8W {r : Ru} (h : RuW r) : (ruS r).length ≤ 8 * (ruI r).length := by
  have hn := h.nxt
  obtain ⟨s, wd, its, nx⟩ := r
  have a1 := sgS_len (show OkS s from h.st)
  have a2 : (wdS wd).length ≤ 5 := wdS_len h.wd
  have a3 : (itsS its).length ≤ 7 + 5 * (itsI its).length := itsS_len5W h.its
  have o1 : (" " : Str).length = 1 := by decide
  have o2 : (": " : Str).length = 2 := by decide
  have o3 : (" > " : Str).length = 3 := by decide
  have w : 1 ≤ (wdI wd).length := by cases wd <;> simp [wdI]
  have l : (ruI ⟨s, wd, its, nx⟩).length = 1 + ((wdI wd).length + (1 + ((itsI its).length + (nxI nx).length))) := by
    simp [ruI]
    omega
  rw [l]
  cases nx with
  | none =>
    show (sgS s ++ " " ++ wdS wd ++ ": " ++ itsS its).length ≤ _
    rw [strLen_append, strLen_append, strLen_append, strLen_append]
    omega
  | some n =>
    have a4 := sgS_len (show OkS n from hn)
    show (sgS s ++ " " ++ wdS wd ++ ": " ++ itsS its ++ " > " ++ sgS n).length ≤ _
    rw [strLen_append, strLen_append, strLen_append, strLen_append, strLen_append, strLen_append]
    have y : (nxI (some n)).length = 1 := rfl
    omega
theorem rusS_sumW : ∀ {rs : List Ru}, RusW rs → ((rs.map ruS).map (·.length)).sum ≤ 8 * (rusI rs).length
  | [], _ => Nat.zero_le _
  | r :: rs, h => by
    have a := ruS_len8W (h r List.mem_cons_self)
    have b := rusS_sumW (rs := rs) fun j hj => h j (List.mem_cons_of_mem _ hj)
    show (ruS r).length + ((rs.map ruS).map (·.length)).sum ≤ 8 * (ruI r ++ rusI rs).length
    rw [List.length_append]
    omega
def sdTextBW : SpD := fun ws S Q _ => ∃ (s : Int) (rs : List Ru), ws = [.dat (.int s), .dat (.lst (rusV rs))] ∧ (0 ≤ s ∧ s < 100) ∧ RusW rs ∧ (rusI rs).length ≤ 1000000 ∧ Q (.dat (.str (boS s rs))) S
theorem ch_itPW {i : Itm} (h : ItW i) : ∀ a ∈ itPS i, ChA pA a := by
  intro a ha
  cases i with
  | put xs =>
    rcases List.mem_cons.mp ha with rfl | ha
    · exact ch_lit (by decide +kernel)
    · obtain ⟨k, hk, rfl⟩ := List.mem_map.mp ha
      exact ch_sg (h.1 k hk)
  | plus k =>
    rcases List.mem_cons.mp ha with rfl | ha
    · exact ch_lit (by decide +kernel)
    · rw [List.mem_singleton.mp ha]
      exact ch_sg h
  | own j k =>
    rcases List.mem_cons.mp ha with rfl | ha
    · exact ch_lit (by decide +kernel)
    rcases List.mem_cons.mp ha with rfl | ha
    · exact ch_sg h.1
    · rw [List.mem_singleton.mp ha]
      exact ch_sg h.2
theorem ch_itW {i : Itm} (h : ItW i) : ChA pB (itS i) := by
  rw [itS_eq]
  exact ch_join (ch_lit (by decide +kernel)) fun a ha => ch_mono pAB (ch_itPW h a ha)
theorem ch_itsW {is : List Itm} (h : ∀ i ∈ is, ItW i) : ChA pC (itsS is) := by
  unfold itsS
  split
  · exact ch_lit (by decide +kernel)
  · refine ch_join (ch_lit (by decide +kernel)) fun a ha => ?_
    obtain ⟨i, hi, rfl⟩ := List.mem_map.mp ha
    exact ch_mono pBC (ch_itW (h i hi))
theorem ch_ruW {r : Ru} (h : RuW r) : ChA pD (ruS r) := by
  have hn := h.nxt
  obtain ⟨s, wd, its, nx⟩ := r
  have up : ∀ {a : Str}, ChA pA a → ChA pD a := fun z => ch_mono pCD (ch_mono pBC (ch_mono pAB z))
  have e1 : ChA pD (sgS s ++ " " ++ wdS wd ++ ": " ++ itsS its) := ch_app (ch_app (ch_app (ch_app (up (ch_sg h.st)) (ch_lit (by decide +kernel))) (up (ch_wd h.wd))) (ch_lit (by decide +kernel))) (ch_mono pCD (ch_itsW h.its))
  cases nx with
  | none => exact e1
  | some n => exact ch_app (ch_app e1 (ch_lit (by decide +kernel))) (up (ch_sg hn))
theorem split_itW {i : Itm} (h : ItW i) : Txt.split (itS i) " " = itPS i := by
  rw [itS_eq]
  exact TL.split_join (s := 32) (S := []) (by decide +kernel) (by decide +kernel) (by cases i <;> simp [itPS]) fun p hp => ch_no (ch_itPW h p hp) (by decide)
theorem itDr_itW {i : Itm} (h : ItW i) : itDr (itS i) = Itm.v i := by
  unfold itDr
  rw [split_itW h]
  have n1 : ¬ (("plus" : Str) = "put") := by decide +kernel
  have n2 : ¬ (("own" : Str) = "put") := by decide +kernel
  cases i with
  | put xs =>
    show (if ("put" : Str) = "put" then D.tup [.str "put", .tup ((xs.map sgS).map fun s => oD (sgOf s))] else D.tup (.str "put" :: (xs.map sgS).map fun s => oD (sgOf s))) = _
    rw [if_pos rfl, List.map_map]
    have e : xs.map ((fun s => oD (sgOf s)) ∘ sgS) = xs.map D.int := List.map_congr_left fun k hk => by
      show oD (sgOf (sgS k)) = _
      rw [sgOf_sg (h.1 k hk)]
      rfl
    rw [e]
    rfl
  | plus k =>
    show (if ("plus" : Str) = "put" then D.tup [.str "plus", .tup [oD (sgOf (sgS k))]] else D.tup [.str "plus", oD (sgOf (sgS k))]) = _
    rw [if_neg n1, sgOf_sg h]
    rfl
  | own j k =>
    show (if ("own" : Str) = "put" then D.tup [.str "own", .tup [oD (sgOf (sgS j)), oD (sgOf (sgS k))]] else D.tup [.str "own", oD (sgOf (sgS j)), oD (sgOf (sgS k))]) = _
    rw [if_neg n2, sgOf_sg h.1, sgOf_sg h.2]
    rfl
theorem split_itsW {i : Itm} {is : List Itm} (h : ∀ x ∈ i :: is, ItW x) : Txt.split (itsS (i :: is)) ", " = (i :: is).map itS :=
  TL.split_join (s := 44) (S := [32]) (by decide +kernel) (by decide +kernel) (by simp) fun p hp => by
    obtain ⟨x, hx, rfl⟩ := List.mem_map.mp hp
    exact ch_no (ch_itW (h x hx)) (by decide)
theorem its_someW {i : Itm} {is : List Itm} (h : ∀ x ∈ i :: is, ItW x) : itsS (i :: is) ≠ "nothing" := fun e => by
  have z := split_itsW h
  rw [e, show Txt.split "nothing" ", " = ([("nothing" : Str)] : List Str) from by decide +kernel, List.map_cons] at z
  have z1 : itS i = "nothing" := (List.cons.inj z).1.symm
  have y := split_itW (h i List.mem_cons_self)
  rw [z1, show Txt.split "nothing" " " = ([("nothing" : Str)] : List Str) from by decide +kernel] at y
  have l := congrArg List.length y
  cases i with
  | put xs =>
    have n : ¬ (("nothing" : Str) = "put") := by decide +kernel
    exact n (List.cons.inj y).1
  | plus k => exact absurd l (by simp [itPS])
  | own j k => exact absurd l (by simp [itPS])
theorem itsDr_itsW {is : List Itm} (h : ∀ x ∈ is, ItW x) : itsDr (itsS is) = .tup (itsV is) := by
  cases is with
  | nil =>
    show (if ("nothing" : Str) = "nothing" then D.tup [] else _) = _
    rw [if_pos rfl]
    rfl
  | cons i is =>
    unfold itsDr
    rw [if_neg (its_someW h), split_itsW h, List.map_map]
    congr 1
    exact List.map_congr_left fun x hx => itDr_itW (h x hx)
theorem ruDr_ruW {r : Ru} (h : RuW r) : ruDr (ruS r) = Ru.v r := by
  have hn := h.nxt
  have hx := h.nx
  obtain ⟨st, wd, its, nx⟩ := r
  have up : ∀ {a : Str}, ChA pA a → ChA pB a := fun z => ch_mono pAB z
  have hs : OkS st := h.st
  have hw : WdOk wd := h.wd
  have hi : ∀ i ∈ its, ItW i := h.its
  have e1 : TL.tl ": " = [58, 32] := by decide +kernel
  have e2 : TL.tl " " = [32] := by decide +kernel
  have hd : ChA pB (sgS st ++ " " ++ wdS wd) := ch_app (ch_app (up (ch_sg hs)) (ch_lit (by decide +kernel))) (up (ch_wd hw))
  have p2 : Txt.partition (sgS st ++ " " ++ wdS wd) " " = ((sgS st, (" " : Str), wdS wd) : Str × Str × Str) := part_at e2 (ch_sg hs) (by decide)
  cases nx with
  | none =>
    obtain rfl : wd = .fin := by
      cases wd with
      | fin => rfl
      | other => exact hx.elim
      | sign _ => exact hx.elim
    have p1 : Txt.partition (ruS ⟨st, .fin, its, none⟩) ": " = ((sgS st ++ " " ++ wdS .fin, (": " : Str), itsS its) : Str × Str × Str) := part_at e1 hd (by decide)
    unfold ruDr
    rw [p1]
    show (if (Txt.partition (sgS st ++ " " ++ wdS .fin) " ").2.2 = "end" then D.tup [oD (sgOf (Txt.partition (sgS st ++ " " ++ wdS .fin) " ").1), .str "end", itsDr (itsS its), .non] else _) = _
    rw [p2]
    refine (if_pos (rfl : wdS Wd.fin = "end")).trans ?_
    show D.tup [oD (sgOf (sgS st)), .str "end", itsDr (itsS its), .non] = _
    rw [sgOf_sg hs, itsDr_itsW hi]
    rfl
  | some n =>
    have ne : ¬ (wdS wd = "end") := fun e => by
      have z := wdS_end hw e
      subst z
      exact hx.elim
    have p1 : Txt.partition (ruS ⟨st, wd, its, some n⟩) ": " = ((sgS st ++ " " ++ wdS wd, (": " : Str), itsS its ++ " > " ++ sgS n) : Str × Str × Str) := by
      have z : ruS ⟨st, wd, its, some n⟩ = (sgS st ++ " " ++ wdS wd) ++ ": " ++ (itsS its ++ " > " ++ sgS n) := by
        show sgS st ++ " " ++ wdS wd ++ ": " ++ itsS its ++ " > " ++ sgS n = _
        rw [app_as (sgS st ++ " " ++ wdS wd ++ ": "), app_as (sgS st ++ " " ++ wdS wd ++ ": "), app_as (itsS its)]
      rw [z]
      exact part_at e1 hd (by decide)
    have p3 : Txt.partition (itsS its ++ " > " ++ sgS n) " > " = ((itsS its, (" > " : Str), sgS n) : Str × Str × Str) := part_arrow (ch_no (ch_itsW hi) (by decide))
    unfold ruDr
    rw [p1]
    show (if (Txt.partition (sgS st ++ " " ++ wdS wd) " ").2.2 = "end" then _ else D.tup [oD (sgOf (Txt.partition (sgS st ++ " " ++ wdS wd) " ").1), wdDr (Txt.partition (sgS st ++ " " ++ wdS wd) " ").2.2, itsDr (Txt.partition (itsS its ++ " > " ++ sgS n) " > ").1, oD (sgOf (Txt.partition (itsS its ++ " > " ++ sgS n) " > ").2.2)]) = _
    rw [p2, p3, if_neg ne]
    show D.tup [oD (sgOf (sgS st)), wdDr (wdS wd), itsDr (itsS its), oD (sgOf (sgS n))] = _
    rw [sgOf_sg hs, itsDr_itsW hi, sgOf_sg (show OkS n from hn), wdDr_wd hw (fun z => by subst z; exact hx.elim)]
    rfl
theorem rows_boW {s : Int} {rs : List Ru} (hs : OkS s) (h : RusW rs) : Txt.split (boS s rs) "\n" = ("start " ++ sgS s) :: rs.map ruS :=
  TL.split_join (s := 10) (S := []) (by decide +kernel) (by decide +kernel) (by simp) fun p hp => by
    rcases List.mem_cons.mp hp with rfl | hp
    · exact ch_no (p := pB) (ch_app (ch_lit (by decide +kernel)) (ch_mono pAB (ch_sg hs))) (by decide)
    · obtain ⟨r, hr, rfl⟩ := List.mem_map.mp hp
      exact ch_no (ch_ruW (h r hr)) (by decide)
theorem boS_lenW {s : Int} {rs : List Ru} (hs : OkS s) (h : RusW rs) : (boS s rs).length ≤ 10 + 9 * (rusI rs).length := by
  have a := join_le "\n" (("start " ++ sgS s) :: rs.map ruS)
  have b := rusS_sumW h
  have c := rusI_len1 (rs := rs)
  have d := sgS_len hs
  have o0 : ("start " : Str).length = 6 := by decide
  have o1 : ("\n" : Str).length = 1 := by decide
  rw [o1, List.map_cons, List.sum_cons, List.length_cons, List.length_map, strLen_append, o0] at a
  show (Txt.join "\n" (("start " ++ sgS s) :: rs.map ruS)).length ≤ _
  omega
theorem ruDr_mapW {rs : List Ru} (h : RusW rs) : (rs.map ruS).map ruDr = rs.map Ru.v := by
  rw [List.map_map]
  exact List.map_congr_left fun r hr => ruDr_ruW (h r hr)
end Va

set_option maxRecDepth 100000
set_option maxHeartbeats 2000000
namespace Va
open PySem PySem.Spec PyProof.Rows L2 Fd

/-! ### rules that are too great -/
theorem itsD_many {is : List Itm} (h : 99 < is.length) : itsD (.tup (itsV is)) = false := by
  show (decide ((itsV is).length ≤ 99) && (itsV is).all itD) = false
  rw [show (itsV is).length = is.length from List.length_map .., decide_eq_false (by omega)]
  rfl
theorem itD_put {xs : List Int} (h : 99 < xs.length) : itD (Itm.v (.put xs)) = false := by
  show (if eqD (.str "put") (.str "put") then rowD (.tup (xs.map D.int)) && decide ((xs.map D.int).length ≤ 99) else if eqD (.str "put") (.str "plus") then sgD (.tup (xs.map D.int)) else false) = false
  rw [if_pos (by decide +kernel), List.length_map, decide_eq_false (by omega), Bool.and_false]
theorem itsD_put {xs : List Int} (h : 99 < xs.length) : itsD (.tup (itsV [.put xs])) = false := by
  show (decide ((itsV [.put xs]).length ≤ 99) && (itD (Itm.v (.put xs)) && true)) = false
  rw [itD_put h]
  rfl
theorem ruD_big {u : Ru} (h : itsD (.tup (itsV u.items)) = false) : ruD (Ru.v u) = false := by
  obtain ⟨s, wd, its, nx⟩ := u
  have h : itsD (.tup (itsV its)) = false := h
  show ((sgD (.int s) && itsD (.tup (itsV its))) && (if eqD (Wd.v wd) (.str "end") then nonD (nextV nx) else (eqD (Wd.v wd) (.str "other") || sgD (Wd.v wd)) && sgD (nextV nx))) = false
  rw [h, Bool.and_false, Bool.false_and]
def sdBodyE (c : Addr) : SpD := fun ws S Q E => ∃ (s : Int) (ds : List D) (us : List Ru), ws = [.dat (.int s), .dat (.lst ds)] ∧ (0 ≤ s ∧ s < 100) ∧ RusOk us ∧ us.length ≤ 1000 ∧
  ((ds = rusV us ∧ Q (.dat (iv (bodyI s us))) S) ∨ ∃ d, ds[us.length]? = some d ∧ ds.take us.length = rusV us ∧ Sh 60 d ∧ ruD d = false ∧ E c (.int (us.length : Nat)) S)
def sdBodyT : SpD := fun ws S Q _ => ∃ (s : Int) (ds : List D) (us : List Ru), ws = [.dat (.int s), .dat (.lst ds)] ∧ (0 ≤ s ∧ s < 100) ∧ RusOk us ∧ us.length ≤ 1000 ∧
  ((ds = rusV us ∧ Q (.dat (.tup [.str "told", iv (bodyI s us)])) S) ∨ ∃ d, ds[us.length]? = some d ∧ ds.take us.length = rusV us ∧ Sh 60 d ∧ ruD d = false ∧ Q (.dat (.tup [.str "rule", .int (us.length : Nat)])) S)
def sdTextT : SpD := fun ws S Q _ => ∃ (a r0 : Str) (rest : List Str) (s : Int) (us : List Ru), ws = [.dat (.str a)] ∧ a.length ≤ 1000000 ∧ Txt.split a "\n" = r0 :: rest ∧ stOf r0 = some s ∧ (0 ≤ s ∧ s < 100) ∧ RusOk us ∧ us.length ≤ 1000 ∧
  ((rest.map ruDr = us.map Ru.v ∧ Q (.dat (.tup [.str "told", iv (bodyI s us)])) S) ∨
   (∃ r, rest[us.length]? = some r ∧ (rest.take us.length).map ruDr = us.map Ru.v ∧ Sh 60 (ruDr r) ∧ ruD (ruDr r) = false ∧ Q (.dat (.tup [.str "text", .int (1 + (us.length : Nat))])) S))
theorem itsI_le {m : Nat} : ∀ {is : List Itm}, (∀ i ∈ is, (itI i).length ≤ m) → (itsI is).length ≤ is.length * m
  | [], _ => Nat.zero_le _
  | i :: is, h => by
    have a := h i List.mem_cons_self
    have b := itsI_le (is := is) fun x hx => h x (List.mem_cons_of_mem _ hx)
    show (itI i ++ itsI is).length ≤ (is.length + 1) * m
    rw [List.length_append, Nat.succ_mul]
    omega
theorem itI_lenW {i : Itm} (h : ItW i) : (itI i).length ≤ 103 := by
  cases i with
  | put xs =>
    have := h.2
    simp [itI]
    omega
  | plus k => simp [itI]
  | own j k => simp [itI]
theorem ruI_lenW {r : Ru} (h : RuW r) : (ruI r).length ≤ 10408 := by
  have z := itsI_le (m := 103) fun i hi => itI_lenW (h.its i hi)
  have f := h.few
  obtain ⟨s, wd, its, nx⟩ := r
  have f : its.length ≤ 101 := f
  have z : (itsI its).length ≤ its.length * 103 := z
  have w : (wdI wd).length ≤ 2 := by cases wd <;> simp [wdI]
  have y : (nxI nx).length ≤ 1 := by cases nx <;> simp [nxI]
  show (s :: (wdI wd ++ (((its.length : Nat) : Int) :: (itsI its ++ nxI nx)))).length ≤ 10408
  simp only [List.length_cons, List.length_append]
  omega
theorem mid_get {α : Type} {l : List α} {n : Nat} {u : α} (h : n ≤ l.length) : (l.take n ++ [u] ++ l.drop n)[n]? = some u := by
  rw [List.append_assoc, List.getElem?_append_right (by rw [List.length_take]; omega), List.length_take, Nat.min_eq_left h, Nat.sub_self]
  rfl
theorem mid_take {α : Type} {l : List α} {n : Nat} {u : α} (h : n ≤ l.length) : (l.take n ++ [u] ++ l.drop n).take n = l.take n := by
  rw [List.append_assoc]
  have e : (l.take n).length = n := by rw [List.length_take]; omega
  have z := List.take_left (l₁ := l.take n) (l₂ := [u] ++ l.drop n)
  rw [e] at z
  exact z
theorem mid_rus {rs : List Ru} {n : Nat} {u : Ru} : rusV (rs.take n ++ [u] ++ rs.drop n) = (rusV (rs.take n) ++ [Ru.v u]) ++ rusV (rs.drop n) := by
  rw [← rusV_app, ← rusV_app]
  rfl
theorem sh_told {w : Str} (h : PyData.strOk w = true) (ns : List Int) : Sh 2 (.tup [.str w, iv ns]) := .tup fun d hd => by
  rcases List.mem_cons.mp hd with rfl | hd
  · exact (Sh.str (by rw [PyData.canLay0]; exact h)).le (by decide)
  · rw [List.mem_singleton.mp hd]
    exact sh_iv ns
theorem sh_bad {w : Str} (h : PyData.strOk w = true) (i : Int) : Sh 1 (.tup [.str w, .int i]) := .tup fun d hd => by
  rcases List.mem_cons.mp hd with rfl | hd
  · exact Sh.str (by rw [PyData.canLay0]; exact h)
  · rw [List.mem_singleton.mp hd]
    exact Sh.int i
end Va

set_option maxRecDepth 100000
set_option maxHeartbeats 2000000
namespace Va
open PySem PySem.Spec PyProof.Rows L2 Fd

/-! ### {} -/
def dDic : DE := fun δ Q => ∀ a, Q (.dat (.dic a)) δ
theorem v_dic {X : Cx} {B : Base} {pos : Pos} : PE X (.Dict [] [] pos) (upE B dDic) := pe_imp pe_dnewK fun σ H Q ⟨O, δ, Qd, R, h, L⟩ => fun p n => by
  have e : Ext O δ.own H O δ.own (upd H p (.dK [])) := ext_new n
  have st := store_new (o := .dK []) R.st n
  exact L _ δ O _ _ (h p) e (R.to st e) (Dv.dic ⟨upd_same, fun z => not_lv_new R.st n z.mem⟩)
end Va

set_option maxRecDepth 100000
set_option maxHeartbeats 2000000
namespace Va
open PySem PySem.Spec PyProof.Rows L2 Fd

/-! ### what is read well is what is written -/
theorem sgOf_is {a : Str} {i : Int} (h : sgOf a = some i) : OkS i ∧ a = sgS i := by
  unfold sgOf at h
  split at h
  · rename_i c
    rw [Bool.and_eq_true, Bool.and_eq_true, decide_eq_true_eq] at c
    obtain ⟨n, e, n0, n1⟩ := int_some c.1 c.2.1 c.2.2
    rw [e] at h
    have h : (if (toString n : Str) = a then some n else none) = some i := h
    split at h
    · rename_i z
      cases h
      exact ⟨⟨n0, n1⟩, z.symm⟩
    · cases h
  · cases h
theorem eqD_str (a b : Str) : eqD (.str a) (.str b) = decide (a = b) := by
  unfold eqD
  rw [py, py]
  show (a == b) = _
  by_cases c : a = b
  · subst c
    rw [decide_eq_true rfl]
    exact beq_self_eq_true a
  · rw [decide_eq_false c]
    exact beq_eq_false_iff_ne.mpr c
theorem sgD_o {o : Option Int} (h : sgD (oD o) = true) : ∃ i, o = some i := by
  cases o with
  | none => exact Bool.noConfusion h
  | some i => exact ⟨i, rfl⟩
theorem all_sg : ∀ {ss : List Str}, (∀ s ∈ ss, ∃ i, sgOf s = some i) → ∃ xs : List Int, (∀ x ∈ xs, OkS x) ∧ ss = xs.map sgS
  | [], _ => ⟨[], (fun _ h => nomatch h), rfl⟩
  | s :: ss, h => by
    obtain ⟨i, hi⟩ := h s List.mem_cons_self
    obtain ⟨o, rfl⟩ := sgOf_is hi
    obtain ⟨xs, h1, rfl⟩ := all_sg (ss := ss) fun t ht => h t (List.mem_cons_of_mem _ ht)
    exact ⟨i :: xs, fun x hx => by rcases List.mem_cons.mp hx with rfl | hx; exact o; exact h1 x hx, rfl⟩
theorem rowD_all {ds : List D} (h : rowD (.tup ds) = true) : ∀ d ∈ ds, sgD d = true := by
  unfold rowD at h
  rw [py] at h
  have z : ((true && (pys ds).all dSign) : Bool) = true := h
  rw [Bool.true_and] at z
  clear h
  induction ds with
  | nil => exact fun _ h => nomatch h
  | cons d ds ih =>
    rw [pys, List.all_cons, Bool.and_eq_true] at z
    intro x hx
    rcases List.mem_cons.mp hx with rfl | hx
    · exact z.1
    · exact ih z.2 x hx
theorem split_back (a y : Str) : Txt.join y (Txt.split a y) = a := by
  rw [TL.join_eq]
  exact PySem.StrLaws.join_split a y
theorem itD_read {a : Str} (h : itD (itDr a) = true) : ∃ i, ItOk i ∧ a = itS i := by
  unfold itDr at h
  have hb := split_back a " "
  have hp := PyProof.Rows.split_pos a " "
  generalize Txt.split a " " = parts at h hb hp
  rcases parts with _ | ⟨w, ss⟩
  · exact absurd hp (by decide)
  have h : itD (if w = "put" then .tup [.str w, .tup (ss.map fun s => oD (sgOf s))] else .tup (.str w :: ss.map fun s => oD (sgOf s))) = true := h
  by_cases c : w = "put"
  · rw [if_pos c] at h
    have h : (if eqD (.str w) (.str "put") then rowD (.tup (ss.map fun s => oD (sgOf s))) && decide ((ss.map fun s => oD (sgOf s)).length ≤ 99) else if eqD (.str w) (.str "plus") then sgD (.tup (ss.map fun s => oD (sgOf s))) else false) = true := h
    rw [if_pos (by rw [eqD_str]; exact decide_eq_true c), Bool.and_eq_true, decide_eq_true_eq, List.length_map] at h
    obtain ⟨xs, h1, rfl⟩ := all_sg (ss := ss) fun s hs => sgD_o (rowD_all h.1 _ (List.mem_map.mpr ⟨s, hs, rfl⟩))
    refine ⟨.put xs, ⟨h1, by have := h.2; rw [List.length_map] at this; exact this⟩, ?_⟩
    rw [← hb, c]
    rfl
  · rw [if_neg c] at h
    have nput : ¬ (eqD (.str w) (.str "put") = true) := by rw [eqD_str]; simpa using c
    rcases ss with _ | ⟨s1, _ | ⟨s2, _ | ⟨s3, ss⟩⟩⟩
    · exact Bool.noConfusion h
    · have h : (if eqD (.str w) (.str "put") then rowD (oD (sgOf s1)) && decide (lenD (oD (sgOf s1)) ≤ 99) else if eqD (.str w) (.str "plus") then sgD (oD (sgOf s1)) else false) = true := h
      rw [if_neg nput] at h
      by_cases c2 : w = "plus"
      · rw [if_pos (by rw [eqD_str]; exact decide_eq_true c2)] at h
        obtain ⟨i, hi⟩ := sgD_o h
        obtain ⟨o, rfl⟩ := sgOf_is hi
        exact ⟨.plus i, o, by rw [← hb, c2]; rfl⟩
      · rw [if_neg (by rw [eqD_str]; simpa using c2)] at h
        cases h
    · have h : (eqD (.str w) (.str "own") && (sgD (oD (sgOf s1)) && sgD (oD (sgOf s2)))) = true := h
      rw [Bool.and_eq_true, Bool.and_eq_true, eqD_str, decide_eq_true_eq] at h
      obtain ⟨i, hi⟩ := sgD_o h.2.1
      obtain ⟨o, rfl⟩ := sgOf_is hi
      obtain ⟨j, hj⟩ := sgD_o h.2.2
      obtain ⟨o2, rfl⟩ := sgOf_is hj
      exact ⟨.own i j, ⟨o, o2⟩, by rw [← hb, h.1]; rfl⟩
    · exact Bool.noConfusion h
theorem all_it : ∀ {ss : List Str}, (∀ s ∈ ss, ∃ i, ItOk i ∧ s = itS i) → ∃ is : List Itm, (∀ x ∈ is, ItOk x) ∧ ss = is.map itS
  | [], _ => ⟨[], (fun _ h => nomatch h), rfl⟩
  | s :: ss, h => by
    obtain ⟨i, o, rfl⟩ := h s List.mem_cons_self
    obtain ⟨xs, h1, rfl⟩ := all_it (ss := ss) fun t ht => h t (List.mem_cons_of_mem _ ht)
    exact ⟨i :: xs, fun x hx => by rcases List.mem_cons.mp hx with rfl | hx; exact o; exact h1 x hx, rfl⟩
theorem itsD_read {a : Str} (h : itsD (itsDr a) = true) : ∃ is : List Itm, (∀ i ∈ is, ItOk i) ∧ is.length ≤ 99 ∧ a = itsS is := by
  unfold itsDr at h
  by_cases c : a = "nothing"
  · exact ⟨[], (fun _ h => nomatch h), by decide, c⟩
  · rw [if_neg c] at h
    have hb := split_back a ", "
    have hp := PyProof.Rows.split_pos a ", "
    generalize Txt.split a ", " = ss at h hb hp
    have h : (decide ((ss.map itDr).length ≤ 99) && (ss.map itDr).all itD) = true := h
    rw [Bool.and_eq_true, decide_eq_true_eq, List.length_map, List.all_map, List.all_eq_true] at h
    obtain ⟨is, h1, rfl⟩ := all_it (ss := ss) fun s hs => itD_read (h.2 s hs)
    refine ⟨is, h1, by have := h.1; rw [List.length_map] at this; exact this, ?_⟩
    unfold itsS
    rw [if_neg (fun z => by subst z; exact absurd hp (by decide)), hb]
theorem part_mid (x y : Str) : (Txt.partition x y).2.1 = y ∨ (Txt.partition x y).2.2 = Str.empty := by
  rcases PyProof.Rows.partition_whole x y with ⟨e, _⟩ | ⟨i, e, _⟩
  · exact .inr (by rw [e])
  · exact .inl (by rw [e])
theorem its_empty : itsD (itsDr Str.empty) = false := by decide +kernel
theorem sg_empty : sgOf Str.empty = none := by decide +kernel
theorem ruD_read {a : Str} (h : ruD (ruDr a) = true) : ∃ u, RuOk u ∧ a = ruS u := by
  unfold ruDr at h
  have s1 := PySem.StrLaws.partition_sum a ": "
  have m1 := part_mid a ": "
  generalize Txt.partition a ": " = p1 at h s1 m1
  have s2 := PySem.StrLaws.partition_sum p1.1 " "
  have m2 := part_mid p1.1 " "
  generalize Txt.partition p1.1 " " = p2 at h s2 m2
  by_cases c : p2.2.2 = "end"
  · rw [if_pos c] at h
    have h : ((sgD (oD (sgOf p2.1)) && itsD (itsDr p1.2.2)) && (if eqD (.str "end") (.str "end") then nonD .non else (eqD (.str "end") (.str "other") || sgD (.str "end")) && sgD .non)) = true := h
    rw [Bool.and_eq_true, Bool.and_eq_true] at h
    obtain ⟨s, hs⟩ := sgD_o h.1.1
    obtain ⟨os, es⟩ := sgOf_is hs
    obtain ⟨is, h1, h2, e3⟩ := itsD_read h.1.2
    have e1 : p1.2.1 = ": " := m1.resolve_right fun z => by
      have w := h.1.2
      rw [z, its_empty] at w
      cases w
    have e2 : p2.2.1 = " " := m2.resolve_right fun z => by
      rw [z] at c
      exact absurd c (by decide +kernel)
    refine ⟨⟨s, .fin, is, none⟩, ⟨os, trivial, h1, h2, trivial⟩, ?_⟩
    rw [← s1, ← s2, e1, e2, c, es, e3]
    rfl
  · rw [if_neg c] at h
    have s3 := PySem.StrLaws.partition_sum p1.2.2 " > "
    have m3 := part_mid p1.2.2 " > "
    generalize Txt.partition p1.2.2 " > " = p3 at h s3 m3
    have h : ((sgD (oD (sgOf p2.1)) && itsD (itsDr p3.1)) && (if eqD (wdDr p2.2.2) (.str "end") then nonD (oD (sgOf p3.2.2)) else (eqD (wdDr p2.2.2) (.str "other") || sgD (wdDr p2.2.2)) && sgD (oD (sgOf p3.2.2)))) = true := h
    rw [Bool.and_eq_true, Bool.and_eq_true] at h
    obtain ⟨s, hs⟩ := sgD_o h.1.1
    obtain ⟨os, es⟩ := sgOf_is hs
    obtain ⟨is, h1, h2, e3⟩ := itsD_read h.1.2
    have hw : ∃ w, WdOk w ∧ w ≠ .fin ∧ p2.2.2 = wdS w ∧ ∃ n, sgOf p3.2.2 = some n := by
      have h2 := h.2
      unfold wdDr at h2
      by_cases c2 : p2.2.2 = "other"
      · rw [if_pos c2, if_neg (by rw [eqD_str]; decide +kernel), Bool.and_eq_true] at h2
        exact ⟨.other, trivial, (fun z => nomatch z), c2, sgD_o h2.2⟩
      · rw [if_neg c2] at h2
        cases hx : sgOf p2.2.2 with
        | none =>
          rw [hx, if_neg (by decide +kernel), Bool.and_eq_true] at h2
          exact absurd h2.1 (by decide +kernel)
        | some x =>
          obtain ⟨ox, ex⟩ := sgOf_is hx
          have ne : eqD (.int x) (.str "end") = false := by
            unfold eqD
            rw [py, py]
            simp [PyData.eqv]
          rw [hx, if_neg (by show ¬ (eqD (.int x) (.str "end") = true); rw [ne]; decide), Bool.and_eq_true] at h2
          exact ⟨.sign x, ox, (fun z => nomatch z), ex, sgD_o h2.2⟩
    obtain ⟨w, ow, nw, ew, n, hn⟩ := hw
    obtain ⟨on, en⟩ := sgOf_is hn
    have e4 : p3.2.1 = " > " := m3.resolve_right fun z => by
      rw [z, sg_empty] at hn
      cases hn
    have e1 : p1.2.1 = ": " := m1.resolve_right fun z => by
      rw [z] at s3
      have l := congrArg Str.length s3
      rw [strLen_append, strLen_append, e4] at l
      have o : (" > " : Str).length = 3 := by decide
      have o2 : Str.empty.length = 0 := rfl
      omega
    have e2 : p2.2.1 = " " := m2.resolve_right fun z => by
      rw [z] at ew
      have l := congrArg Str.length ew
      have o2 : Str.empty.length = 0 := rfl
      rw [o2] at l
      cases w with
      | fin => exact nw rfl
      | other => exact absurd l (by decide +kernel)
      | sign x =>
        have y := sgOf_sg (show OkS x from ow)
        rw [show sgS x = Str.empty from ew.symm, sg_empty] at y
        cases y
    refine ⟨⟨s, w, is, some n⟩, ⟨os, ow, h1, h2, ?_⟩, ?_⟩
    · cases w with
      | fin => exact absurd rfl nw
      | other => exact on
      | sign x => exact on
    · rw [← s1, ← s2, ← s3, e1, e2, e4, es, e3, ew, en]
      show sgS s ++ " " ++ wdS w ++ ": " ++ (itsS is ++ " > " ++ sgS n) = sgS s ++ " " ++ wdS w ++ ": " ++ itsS is ++ " > " ++ sgS n
      rw [app_as (sgS s ++ " " ++ wdS w ++ ": "), app_as (sgS s ++ " " ++ wdS w ++ ": "), app_as (itsS is)]
end Va

set_option maxRecDepth 100000
set_option maxHeartbeats 2000000
namespace Va
open PySem PySem.Spec PyProof.Rows L2 Fd
open PySem.StrLaws (At)

/-! ### cuts of texts -/
theorem tl_ext {a b : Str} (h : TL.tl a = TL.tl b) : a = b := TL.ext_tl h
theorem cut_to {a : Str} {i : Nat} (h : i ≤ a.length) : TL.tl (cutS a none (some (i : Int))) = (TL.tl a).take i := by
  show ((((TL.tl a).drop (HT.sIx a.length 0 none)).take (HT.sIx a.length a.length (some (i : Int)) - HT.sIx a.length 0 none)).toArray).toList = _
  rw [HT.sIx_nat, HT.sIx_none, Nat.min_eq_left h]
  rfl
theorem cut_from {a : Str} {i : Nat} (h : i ≤ a.length) : TL.tl (cutS a (some (i : Int)) none) = (TL.tl a).drop i := by
  show ((((TL.tl a).drop (HT.sIx a.length 0 (some (i : Int)))).take (HT.sIx a.length a.length none - HT.sIx a.length 0 (some (i : Int)))).toArray).toList = _
  rw [HT.sIx_nat, HT.sIx_none, Nat.min_eq_left h]
  apply List.take_of_length_le
  rw [List.length_drop, ← TL.len_tl]
  omega
theorem at_tl {a y : Str} {i : Nat} (h : At a y a.length i) : TL.tl a = (TL.tl a).take i ++ TL.tl y ++ (TL.tl a).drop (i + y.length) := by
  have h2 : (((TL.tl a).drop i).take y.length) = TL.tl y := by
    have z := h.2
    rw [PySem.StrLaws.subAt_eq] at z
    have w := eq_of_beq z
    exact w
  have e : (TL.tl a).drop i = TL.tl y ++ (TL.tl a).drop (i + y.length) := by
    rw [← h2, ← List.drop_drop, List.take_append_drop]
  rw [List.append_assoc, ← e, List.take_append_drop]
theorem at_join {a y : Str} {i : Nat} (h : At a y a.length i) : a = cutS a none (some (i : Int)) ++ y ++ cutS a (some ((i + y.length : Nat) : Int)) none := by
  have hl := h.1
  refine tl_ext ?_
  rw [TL.tl_append, TL.tl_append, cut_to (by omega), cut_from hl]
  exact at_tl h
theorem rfind_at (a y : Str) : (Txt.rfind a y = -1 ∧ ∀ i, ¬ At a y a.length i) ∨ ∃ e : Nat, Txt.rfind a y = (e : Int) ∧ At a y a.length e := by
  unfold Txt.rfind
  rcases PySem.StrLaws.last_spec a y with ⟨h, hn⟩ | ⟨e, h, ha, _⟩
  · rw [h]; exact .inl ⟨rfl, hn⟩
  · rw [h]; exact .inr ⟨e, rfl, ha⟩
theorem at_mid (a y b : Str) : At (a ++ y ++ b) y (a ++ y ++ b).length a.length := by
  refine ⟨by rw [strLen_append, strLen_append]; omega, ?_⟩
  rw [PySem.StrLaws.subAt_eq]
  show (((TL.tl (a ++ y ++ b)).drop a.length).take y.length == TL.tl y) = true
  rw [TL.tl_append, TL.tl_append, List.append_assoc, TL.len_tl a, List.drop_left, TL.len_tl y, List.take_left]
  exact beq_self_eq_true _
theorem strSub_to {a : Str} {i : Nat} (h : i ≤ a.length) : PySem.Builtin.Str.strSub a 0 i = cutS a none (some (i : Int)) := tl_ext (by rw [TL.tl_strSub, cut_to h, List.drop_zero, Nat.sub_zero])
theorem strSub_from {a : Str} {i : Nat} (h : i ≤ a.length) : PySem.Builtin.Str.strSub a i a.length = cutS a (some (i : Int)) none := tl_ext (by rw [TL.tl_strSub_end, cut_from h])
/-- find and partition cut at one place -/
theorem find_part (a y : Str) : (Txt.find a y = -1 ∧ ∀ b c, a ≠ b ++ y ++ c) ∨ ∃ i : Nat, Txt.find a y = (i : Int) ∧ i + y.length ≤ a.length ∧ Txt.partition a y = ((cutS a none (some (i : Int)), y, cutS a (some ((i + y.length : Nat) : Int)) none) : Str × Str × Str) := by
  rcases PyProof.Rows.find_whole a y with ⟨h, hn⟩ | ⟨i, h, ha, hm⟩
  · exact .inl ⟨h, fun b c e => hn b.length (by rw [e]; exact at_mid b y c)⟩
  · rcases PyProof.Rows.partition_whole a y with ⟨_, hn⟩ | ⟨j, e, hb, hk⟩
    · exact absurd ha (hn i)
    · have hij : i = j := by
        rcases Nat.lt_trichotomy i j with z | z | z
        · exact absurd ha (hk i z)
        · exact z
        · exact absurd hb (hm j z)
      subst hij
      have hl := ha.1
      exact .inr ⟨i, h, hl, by rw [e, strSub_to (by omega), strSub_from hl]⟩
theorem arrow_one {a b p q : Str} (e : a ++ " > " ++ b = p ++ " > " ++ q) (ha : 62 ∉ TL.tl a) (hb : 62 ∉ TL.tl b) : p = a ∧ q = b := by
  have c := congrArg (fun x => (TL.tl x).count 62) e
  have z0 : (TL.tl " > ").count 62 = 1 := by decide +kernel
  have c : (TL.tl (a ++ " > " ++ b)).count 62 = (TL.tl (p ++ " > " ++ q)).count 62 := c
  rw [TL.tl_append, TL.tl_append, TL.tl_append, TL.tl_append, List.count_append, List.count_append, List.count_append, List.count_append, z0, List.count_eq_zero_of_not_mem ha, List.count_eq_zero_of_not_mem hb] at c
  have hp : 62 ∉ TL.tl p := fun h => by
    have := List.count_pos_iff.mpr h
    omega
  have e1 := part_arrow (a := a) (b := b) ha
  have e2 := part_arrow (a := p) (b := q) hp
  rw [e, e2] at e1
  exact ⟨(Prod.mk.inj e1).1, (Prod.mk.inj (Prod.mk.inj e1).2).2⟩
/-! ### rows: the first that is no rule -/
theorem rows_dec : ∀ rest : List Str, ∃ us : List Ru, RusOk us ∧ (rest = us.map ruS ∨ ∃ r, rest[us.length]? = some r ∧ rest.take us.length = us.map ruS ∧ ∀ u, RuOk u → r ≠ ruS u)
  | [] => ⟨[], (fun _ h => nomatch h), .inl rfl⟩
  | r :: rest => by
    by_cases h : ∃ u, RuOk u ∧ r = ruS u
    · obtain ⟨u, hu, rfl⟩ := h
      obtain ⟨us, h1, h2⟩ := rows_dec rest
      refine ⟨u :: us, fun x hx => ?_, ?_⟩
      · rcases List.mem_cons.mp hx with rfl | hx
        · exact hu
        · exact h1 x hx
      · rcases h2 with rfl | ⟨r', e1, e2, e3⟩
        · exact .inl rfl
        · exact .inr ⟨r', e1, by rw [List.length_cons, List.take_succ_cons, e2]; rfl, e3⟩
    · exact ⟨[], (fun _ h => nomatch h), .inr ⟨r, rfl, rfl, fun u hu e => h ⟨u, hu, e⟩⟩⟩
theorem ruD_no {r : Str} (h : ∀ u, RuOk u → r ≠ ruS u) : ruD (ruDr r) = false := by
  cases e : ruD (ruDr r) with
  | false => rfl
  | true =>
    obtain ⟨u, hu, z⟩ := ruD_read e
    exact absurd z (h u hu)
/-! ### the start row, by its first six signs -/
theorem st_six {a : Str} (h : cutS a none (some 6) = "start ") : stOf a = sgOf (cutS a (some 6) none) := by
  by_cases l : 6 ≤ a.length
  · have e : a = "start " ++ cutS a (some 6) none := tl_ext (by
      rw [TL.tl_append, ← h]
      have z1 := cut_to (a := a) (i := 6) l
      have z2 := cut_from (a := a) (i := 6) l
      have z1 : TL.tl (cutS a none (some 6)) = (TL.tl a).take 6 := z1
      have z2 : TL.tl (cutS a (some 6) none) = (TL.tl a).drop 6 := z2
      rw [z1, z2, List.take_append_drop])
    generalize cutS a (some 6) none = b at e
    rw [e]
    have z : ("start " : Str) ++ b = "start" ++ " " ++ b := by
      rw [show ("start " : Str) = "start" ++ " " from by decide +kernel]
    have p1 : Txt.partition ("start" ++ " " ++ b) " " = ((("start" : Str), (" " : Str), b) : Str × Str × Str) := part_at (c := 32) (S := []) (p := pA) (by decide +kernel) (ch_lit (by decide +kernel)) (by decide)
    unfold stOf
    rw [z, p1]
    exact if_pos rfl
  · have y := congrArg Str.length h
    have w := cutS_length a none (some 6)
    have o : ("start " : Str).length = 6 := by decide
    omega
theorem st_not {a : Str} (h : cutS a none (some 6) ≠ "start ") : stOf a = none := by
  unfold stOf
  have s1 := PySem.StrLaws.partition_sum a " "
  have m1 := part_mid a " "
  generalize Txt.partition a " " = p at s1 m1
  by_cases c : p.1 = "start"
  · rw [if_pos c]
    rcases m1 with m | m
    · exfalso
      apply h
      rw [← s1, m, c]
      have e : ("start" : Str) ++ " " ++ p.2.2 = "start " ++ p.2.2 := by
        rw [show ("start" : Str) ++ " " = "start " from by decide +kernel]
      rw [e]
      refine tl_ext ?_
      have o : TL.tl "start " = [115, 116, 97, 114, 116, 32] := by decide +kernel
      have l6 : 6 ≤ ("start " ++ p.2.2).length := by
        rw [strLen_append]
        have : ("start " : Str).length = 6 := by decide
        omega
      have z : TL.tl (cutS ("start " ++ p.2.2) none (some 6)) = (TL.tl ("start " ++ p.2.2)).take 6 := cut_to (i := 6) l6
      rw [z, TL.tl_append, o]
      rfl
    · rw [m]
      exact sg_empty
  · exact if_neg c
end Va

set_option maxRecDepth 100000
set_option maxHeartbeats 2000000
namespace Va
open PySem PySem.Spec PyProof.Rows L2 Fd

/-! ### slices of texts; find, rfind -/
def rdFind (f : Str → Str → Int) : RMd := fun w ws δ Q => ∃ a b, w = .dat (.str a) ∧ ws = [.dat (.str b)] ∧ Q (.dat (.int (f a b))) δ
theorem up_find {f : Str → Str → Int} : UpM (fun x xs H Q => ∃ a b, x = .str a ∧ xs = [.str b] ∧ Q (.int (f a b)) H) (rdFind f) := by
  rintro B O σ H δ x vs w ws Qd Q R rx rs ⟨a, b, rfl, rfl, q⟩ L
  cases rx
  obtain ⟨y, rfl, ry⟩ := rs.one
  cases ry
  exact ⟨a, b, rfl, rfl, L _ δ O _ H q .refl R (.int _)⟩
def rdSlS : RSd := fun w lo hi δ Q => ∃ z, w = .dat (.str z) ∧ z.length ≤ sizeLine ∧ Q (.dat (.str (cutS z lo hi))) δ
theorem s_str {X : Cx} : SlR X rSlS ∧ UpSl rSlS rdSlS := ⟨sl_str, by
  rintro B O σ H δ x w lo hi Qd Q R rx ⟨z, rfl, hz, q⟩ L
  cases rx
  exact ⟨z, rfl, hz, L _ δ O _ H q .refl R (.str _)⟩⟩
/-! ### what the law reads -/
def sdLItem : SpD := fun ws S Q _ => ∃ a, ws = [.dat (.str a)] ∧ a.length ≤ 1000000 ∧ (∀ i, ItOk i → a = itS i → Q (.dat (Itm.v i)) S) ∧ ((∀ i, ItOk i → a ≠ itS i) → Q (.dat .non) S)
def sdLItems : SpD := fun ws S Q _ => ∃ a, ws = [.dat (.str a)] ∧ a.length ≤ 1000000 ∧
  (∀ is : List Itm, (∀ i ∈ is, ItOk i) → is.length ≤ 99 → a = itsS is → Q (.own S.length) (S ++ [some (.lst (itsV is))])) ∧ ((∀ is : List Itm, (∀ i ∈ is, ItOk i) → is.length ≤ 99 → a ≠ itsS is) → Q (.dat .non) S)
def sdLLine : SpD := fun ws S Q _ => ∃ a, ws = [.dat (.str a)] ∧ a.length ≤ 1000000 ∧ (∀ u, RuOk u → a = ruS u → Q (.dat (Ru.v u)) S) ∧ ((∀ u, RuOk u → a ≠ ruS u) → Q (.dat .non) S)
/-- a text that both read -/
def Both (a : Str) (bad : Int → Prop) (good : Int → List Ru → Prop) : Prop := ∃ (r0 : Str) (rest : List Str), Txt.split a "\n" = r0 :: rest ∧ rest.length ≤ 900 ∧
  ((stOf r0 = none ∧ bad 0) ∨ ∃ (s : Int) (us : List Ru), stOf r0 = some s ∧ (0 ≤ s ∧ s < 100) ∧ RusOk us ∧
    ((rest = us.map ruS ∧ good s us) ∨ ∃ r, rest[us.length]? = some r ∧ rest.take us.length = us.map ruS ∧ (∀ u, RuOk u → r ≠ ruS u) ∧ Sh 60 (ruDr r) ∧ bad (1 + (us.length : Nat))))
def sdBoth : SpD := fun ws S Q _ => ∃ d, ws = [.dat d] ∧ noCon d = true ∧ ((isiD d "str" = false ∧ Q (.dat (.tup [.str "text", .int (-1)])) S) ∨
  ∃ a, d = .str a ∧ a.length ≤ 1000000 ∧ Both a (fun i => Q (.dat (.tup [.str "text", .int i])) S) (fun s us => Q (.dat (.tup [.str "told", iv (bodyI s us)])) S))
theorem itV_inj {i j : Itm} (hi : ItOk i) (hj : ItOk j) (h : itS i = itS j) : Itm.v i = Itm.v j := by
  rw [← itDr_it hi, ← itDr_it hj, h]
theorem ruV_inj {u v : Ru} (hu : RuOk u) (hv : RuOk v) (h : ruS u = ruS v) : Ru.v u = Ru.v v := by
  rw [← ruDr_ru hu, ← ruDr_ru hv, h]
theorem sg_inj {i j : Int} (hi : OkS i) (hj : OkS j) (h : sgS i = sgS j) : i = j := by
  have z := sgOf_sg hi
  rw [h, sgOf_sg hj] at z
  exact (Option.some.inj z).symm
theorem o_pow {X : Cx} : OpR X (binaryOp .Pow) (rI CPow fun i j => .int (i ^ j.toNat)) ∧ Up2 (rI CPow fun i j => .int (i ^ j.toNat)) (rdI CPow fun i j => .int (i ^ j.toNat)) := ⟨op_pow, up_I fun _ _ _ => .int _⟩
theorem itPS_tail {i : Itm} (h : ItOk i) {w : Str} {ss : List Str} (e : itPS i = w :: ss) : ∃ xs : List Int, (∀ x ∈ xs, OkS x) ∧ ss = xs.map sgS := by
  cases i with
  | put xs => cases e; exact ⟨xs, h.1, rfl⟩
  | plus k => cases e; exact ⟨[k], fun x hx => by rw [List.mem_singleton.mp hx]; exact h, rfl⟩
  | own j k => cases e; exact ⟨[j, k], fun x hx => by rcases List.mem_cons.mp hx with rfl | hx; exact h.1; rw [List.mem_singleton.mp hx]; exact h.2, rfl⟩
theorem it_parts {i : Itm} (h : ItOk i) {a : Str} {w : Str} {ss : List Str} (e : a = itS i) (hp : Txt.split a " " = w :: ss) : itPS i = w :: ss := by
  rw [← split_it h, ← e, hp]
/-- what stands behind the colon of a rule's row -/
def tailS (u : Ru) : Str := match u.next with
  | none => itsS u.items
  | some n => itsS u.items ++ " > " ++ sgS n
theorem ruS_tail (u : Ru) : ruS u = sgS u.stand ++ " " ++ wdS u.word ++ ": " ++ tailS u := by
  obtain ⟨s, w, is, nx⟩ := u
  cases nx with
  | none => rfl
  | some n =>
    show sgS s ++ " " ++ wdS w ++ ": " ++ itsS is ++ " > " ++ sgS n = sgS s ++ " " ++ wdS w ++ ": " ++ (itsS is ++ " > " ++ sgS n)
    rw [app_as (sgS s ++ " " ++ wdS w ++ ": "), app_as (sgS s ++ " " ++ wdS w ++ ": "), app_as (itsS is)]
theorem ru_part {u : Ru} (h : RuOk u) : Txt.partition (ruS u) ": " = ((sgS u.stand ++ " " ++ wdS u.word, (": " : Str), tailS u) : Str × Str × Str) := by
  rw [ruS_tail]
  exact part_at (c := 58) (S := [32]) (p := pB) (by decide +kernel) (ch_app (ch_app (ch_mono pAB (ch_sg h.st)) (ch_lit (by decide +kernel))) (ch_mono pAB (ch_wd h.wd))) (by decide)
theorem head_split {s : Int} {w : Wd} (hs : OkS s) (hw : WdOk w) : Txt.split (sgS s ++ " " ++ wdS w) " " = [sgS s, wdS w] := by
  have z := TL.split_join (y := " ") (s := 32) (S := []) (parts := [sgS s, wdS w]) (by decide +kernel) (by decide +kernel) (by simp) fun p hp => by
    rcases List.mem_cons.mp hp with rfl | hp
    · exact ch_no (ch_sg hs) (by decide)
    · rw [List.mem_singleton.mp hp]
      exact ch_no (ch_wd hw) (by decide)
  rw [TL.join_eq] at z
  exact z
theorem wdS_inj {v w : Wd} (hv : WdOk v) (hw : WdOk w) (h : wdS v = wdS w) : v = w := by
  cases v with
  | fin => exact (wdS_end hw h.symm).symm
  | other =>
    cases w with
    | other => rfl
    | fin => exact absurd h (by decide +kernel)
    | sign s =>
      have y := sgOf_sg (show OkS s from hw)
      rw [show sgS s = "other" from h.symm, show sgOf "other" = none from by decide +kernel] at y
      cases y
  | sign s =>
    have y := sgOf_sg (show OkS s from hv)
    cases w with
    | other =>
      rw [show sgS s = "other" from h, show sgOf "other" = none from by decide +kernel] at y
      cases y
    | fin =>
      rw [show sgS s = "end" from h, show sgOf "end" = none from by decide +kernel] at y
      cases y
    | sign t => exact congrArg Wd.sign (sg_inj hv hw h)
/-- the law's word -/
def wdL (q : Str) : D := if q = "other" then .str "other" else if q = "end" then .str "end" else oD (sgOf q)
theorem wdL_or (q : Str) : (wdL q = .non ∧ ∀ w, WdOk w → q ≠ wdS w) ∨ ∃ w, WdOk w ∧ q = wdS w ∧ wdL q = Wd.v w := by
  unfold wdL
  by_cases c1 : q = "other"
  · exact .inr ⟨.other, trivial, c1, if_pos c1⟩
  · rw [if_neg c1]
    by_cases c2 : q = "end"
    · exact .inr ⟨.fin, trivial, c2, if_pos c2⟩
    · rw [if_neg c2]
      cases h : sgOf q with
      | some x =>
        obtain ⟨ox, ex⟩ := sgOf_is h
        exact .inr ⟨.sign x, ox, ex, rfl⟩
      | none =>
        refine .inl ⟨rfl, fun w hw e => ?_⟩
        cases w with
        | other => exact c1 e
        | fin => exact c2 e
        | sign x =>
          rw [e, show wdS (.sign x) = sgS x from rfl, sgOf_sg hw] at h
          cases h
theorem wdV_ne {w : Wd} (n : w ≠ .fin) : eqS (Wd.v w) (.str "end") = false := by
  cases w with
  | fin => exact absurd rfl n
  | other => exact decide_eq_false (p := ("other" : Str) = ("end" : Str)) (by decide +kernel)
  | sign s => rfl
theorem tail_uniq {u : Ru} (hu : RuOk u) {t : Str} {n : Int} (hn : OkS n) (h : tailS u = t ++ " > " ++ sgS n) : u.next ≠ none ∧ t = itsS u.items := by
  have hx := hu.nxt
  obtain ⟨s, w, is, nx⟩ := u
  have no : ∀ m, OkS m → 62 ∉ TL.tl (sgS m) := fun m hm => ch_no (ch_sg hm) (by decide)
  have ni : 62 ∉ TL.tl (itsS is) := ch_no (ch_its hu.its) (by decide)
  cases nx with
  | none =>
    exfalso
    apply ni
    have h : itsS is = t ++ " > " ++ sgS n := h
    rw [h, TL.tl_append, TL.tl_append]
    exact List.mem_append_left _ (List.mem_append_right _ (by decide +kernel))
  | some m =>
    refine ⟨(fun z => nomatch z), ?_⟩
    exact (arrow_one h ni (no m hx)).1
def OddD (d : D) : Prop := noCon d = true ∧ (isiD d "str" = false ∨ d = .str "abc" ∨ d = .str "")
def sdOdd : SpD := fun ws S Q _ => ∃ t, ws = [.own t] ∧ TapeIn S t ∧ sdT t S (fun d : D => d) OddD Q ∧ sdL t S (fun ds : List D => ds) (fun _ => True) Q
/-- isinstance(error, c), the suite named -/
theorem v_isE2 {X : Cx} {B : Base} {a C dd : Addr} {oe : Obj} {v : V} {d : D} {pn : List (Addr × Obj)} {e : Expr} {t : DA} (hz : Zc (.ref C) (some dd) oe) (hf : ∃ vs, oe.data = .fields vs) (er : ErrD X.K B C dd v d)
    (h : PE (X.suite a ((a, oe) :: pn)) e (tCB (rIsD X.K a (.ref C) (some dd)) (upA B t))) : PE (X.suite a ((a, oe) :: pn)) e (upE B (dCB (rdIsE X.K a C) t)) := v_isE (X := X.suite a ((a, oe) :: pn)) er h
/-! ### a text that is changed a little -/
def pN (c : Nat) : Bool := decide (c < 1114112)
def pM (c : Nat) : Bool := decide (c < 1114112) && !(c == 10)
theorem pMN (c : Nat) (h : pM c = true) : pN c = true := by
  unfold pM at h
  rw [Bool.and_eq_true] at h
  exact h.1
def LFn (a : Str) : Nat := (TL.tl a).count 10
structure OkB (b : Str) : Prop where
  c : ChA pN b
  l : b.length ≤ 200000
  f : LFn b ≤ 100
theorem ch_part {p : Nat → Bool} {y : Str} : ∀ {ps : List Str}, ChA p (Txt.join y ps) → ∀ x ∈ ps, ChA p x := by
  intro ps
  rw [TL.join_eq]
  induction ps with
  | nil => exact fun _ _ h => nomatch h
  | cons a r ih =>
    intro h x hx
    cases r with
    | nil =>
      rw [List.mem_singleton.mp hx]
      exact h
    | cons b r =>
      have h : ChA p (a ++ y ++ Str.join y (b :: r)) := h
      rcases List.mem_cons.mp hx with rfl | hx
      · exact fun c hc => h c (by rw [TL.tl_append, TL.tl_append]; exact List.mem_append_left _ (List.mem_append_left _ hc))
      · exact ih (fun c hc => h c (by rw [TL.tl_append]; exact List.mem_append_right _ hc)) x hx
theorem ch_split {p : Nat → Bool} {a y : Str} (h : ChA p a) : ∀ x ∈ Txt.split a y, ChA p x := by
  rw [← split_back a y] at h
  exact ch_part h
theorem ch_line {a : Str} (h : ChA pN a) : ∀ x ∈ Txt.split a "\n", ChA pM x := fun x hx c hc => by
  have h1 := ch_split h x hx c hc
  have h2 := PySem.StrLaws.split_free a 10 x (by
    rw [show (⟨#[10]⟩ : Str) = "\n" from by decide +kernel]
    exact hx)
  unfold pM
  rw [show decide (c < 1114112) = true from h1]
  have ne : ¬ (c = 10) := fun z => h2 (by rw [← z]; exact hc)
  simpa using ne
theorem lf_join : ∀ {ps : List Str}, (∀ x ∈ ps, ChA pM x) → LFn (Txt.join "\n" ps) ≤ ps.length := by
  intro ps
  rw [TL.join_eq]
  have z : ∀ {x : Str}, ChA pM x → (TL.tl x).count 10 = 0 := fun h => List.count_eq_zero_of_not_mem (ch_no h (by decide))
  have o : (TL.tl "\n").count 10 = 1 := by decide +kernel
  induction ps with
  | nil => exact fun _ => Nat.zero_le _
  | cons a r ih =>
    intro h
    cases r with
    | nil =>
      show (TL.tl a).count 10 ≤ 1
      rw [z (h a List.mem_cons_self)]
      exact Nat.zero_le _
    | cons b r =>
      have y := ih fun x hx => h x (List.mem_cons_of_mem _ hx)
      show (TL.tl (a ++ "\n" ++ Str.join "\n" (b :: r))).count 10 ≤ _
      rw [TL.tl_append, TL.tl_append, List.count_append, List.count_append, z (h a List.mem_cons_self), o]
      have y : (TL.tl (Str.join "\n" (b :: r))).count 10 ≤ (b :: r).length := y
      rw [List.length_cons]
      omega
theorem sum_take (l : List Nat) (n : Nat) : (l.take n).sum ≤ l.sum := by
  have z := congrArg List.sum (List.take_append_drop n l)
  rw [List.sum_append] at z
  omega
theorem sum_drop (l : List Nat) (n : Nat) : (l.drop n).sum ≤ l.sum := by
  have z := congrArg List.sum (List.take_append_drop n l)
  rw [List.sum_append] at z
  omega
/-- lines, or words of a line -/
structure LsOk (L : List Str) (m : Nat) : Prop where
  c : ∀ x ∈ L, ChA pM x
  s : (L.map (·.length)).sum + L.length ≤ m
theorem LsOk.take {L : List Str} {m : Nat} (h : LsOk L m) (n : Nat) : LsOk (L.take n) m := ⟨fun x hx => h.c x (List.mem_of_mem_take hx), by
  have z := sum_take (L.map (·.length)) n
  have y := h.s
  rw [List.map_take, List.length_take]
  omega⟩
theorem LsOk.drop {L : List Str} {m : Nat} (h : LsOk L m) (n : Nat) : LsOk (L.drop n) m := ⟨fun x hx => h.c x (List.mem_of_mem_drop hx), by
  have z := sum_drop (L.map (·.length)) n
  have y := h.s
  rw [List.map_drop, List.length_drop]
  omega⟩
theorem LsOk.app {L M : List Str} {m n : Nat} (h : LsOk L m) (k : LsOk M n) : LsOk (L ++ M) (m + n) := ⟨fun x hx => (List.mem_append.mp hx).elim (h.c x) (k.c x), by
  have := h.s
  have := k.s
  rw [List.map_append, List.sum_append, List.length_append]
  omega⟩
theorem LsOk.one {x : Str} {m : Nat} (h : ChA pM x) (l : x.length ≤ m) : LsOk [x] (m + 1) := ⟨fun y hy => by rw [List.mem_singleton.mp hy]; exact h, by simp; omega⟩
theorem LsOk.le {L : List Str} {m n : Nat} (h : LsOk L m) (l : m ≤ n) : LsOk L n := ⟨h.c, Nat.le_trans h.s l⟩
theorem LsOk.mem {L : List Str} {m : Nat} (h : LsOk L m) {x : Str} (hx : x ∈ L) : ChA pM x ∧ x.length ≤ m := ⟨h.c x hx, by
  have z : x.length ≤ (L.map (·.length)).sum := sum_mem (List.mem_map.mpr ⟨x, hx, rfl⟩)
  have := h.s
  omega⟩
theorem LsOk.join {L : List Str} {m : Nat} (h : LsOk L m) : ChA pM (Txt.join " " L) ∧ (Txt.join " " L).length ≤ m := by
  refine ⟨ch_join (ch_lit (by decide +kernel)) h.c, ?_⟩
  have z := join_le " " L
  have o : (" " : Str).length = 1 := by decide
  have := h.s
  rw [o] at z
  omega
theorem LsOk.joinL {L : List Str} {m : Nat} (h : LsOk L m) (hm : m ≤ 200000) (hl : L.length ≤ 100) : OkB (Txt.join "\n" L) := by
  have z := join_le "\n" L
  have o : ("\n" : Str).length = 1 := by decide
  have := h.s
  rw [o] at z
  exact ⟨ch_join (ch_lit (by decide +kernel)) fun x hx => ch_mono pMN (h.c x hx), by omega, Nat.le_trans (lf_join h.c) hl⟩
theorem ls_split {a : Str} (h : ChA pN a) : LsOk (Txt.split a "\n") (a.length + 1) := ⟨ch_line h, PyProof.Rows.split_weight a "\n" (by decide)⟩
theorem ls_words {a : Str} (h : ChA pM a) : LsOk (Txt.split a " ") (a.length + 1) := ⟨ch_split h, PyProof.Rows.split_weight a " " (by decide)⟩
theorem cnt_count (c : Nat) : ∀ l : List Nat, PyProof.Rows.cnt c l = (l.count c : Nat)
  | [] => PyProof.Rows.cnt_nil c
  | n :: r => by
    rw [PyProof.Rows.cnt_cons, cnt_count c r, List.count_cons]
    by_cases e : n = c
    · simp [e]
      omega
    · simp [e]
theorem rows_len (a : Str) : (Txt.split a "\n").length = LFn a + 1 := by
  have z := PyProof.Rows.split_len a 10
  rw [show (⟨#[10]⟩ : Str) = "\n" from by decide +kernel, cnt_count] at z
  unfold LFn
  show _ = a.cps.toList.count 10 + 1
  omega
def sdChanged : SpD := fun ws S Q _ => ∃ (t : Nat) (a : Str), ws = [.own t, .dat (.str a)] ∧ TapeIn S t ∧ ChA pN a ∧ a.length ≤ 20000 ∧ LFn a ≤ 20 ∧ sdT t S D.str OkB Q
theorem LsOk.sum {L : List Str} {m : Nat} (h : LsOk L m) (hm : m ≤ 16000000) {y : Str} (oy : y.length = 1) : (L.map (·.length)).sum + L.length * y.length ≤ 16777216 := by
  have := h.s
  rw [oy]
  omega
theorem str_get {L : List Str} {n : Nat} {x : Str} (h : L[n]? = some x) : (L.map D.str)[n]? = some (.str x) := by
  rw [List.getElem?_map, h]
  rfl
theorem ch_one {c : Nat} (h : pM c = true) : ChA pM (⟨#[c]⟩ : Str) := fun d hd => by
  have hd : d ∈ [c] := hd
  rw [List.mem_singleton.mp hd]
  exact h
theorem lf_le {a : Str} {i : Nat} (h : i ≤ a.length) : LFn (cutS a none (some (i : Int))) ≤ LFn a ∧ LFn (cutS a (some (i : Int)) none) ≤ LFn a := by
  unfold LFn
  rw [cut_to h, cut_from h]
  exact ⟨List.Sublist.count_le _ (List.take_sublist _ _), List.Sublist.count_le _ (List.drop_sublist _ _)⟩
theorem ch_cut {p : Nat → Bool} {a : Str} (h : ChA p a) {i : Nat} (l : i ≤ a.length) : ChA p (cutS a none (some (i : Int))) ∧ ChA p (cutS a (some (i : Int)) none) := by
  refine ⟨fun c hc => h c ?_, fun c hc => h c ?_⟩
  · rw [cut_to l] at hc
    exact List.mem_of_mem_take hc
  · rw [cut_from l] at hc
    exact List.mem_of_mem_drop hc
theorem lf_app (a b : Str) : LFn (a ++ b) = LFn a + LFn b := by
  unfold LFn
  rw [TL.tl_append, List.count_append]
theorem cutS_tl (a : Str) (lo hi : Option Int) : TL.tl (cutS a lo hi) = ((TL.tl a).drop (HT.sIx a.length 0 lo)).take (HT.sIx a.length a.length hi - HT.sIx a.length 0 lo) := rfl
theorem ch_cutA {p : Nat → Bool} {a : Str} (h : ChA p a) (lo hi : Option Int) : ChA p (cutS a lo hi) := fun c hc => h c (by
  rw [cutS_tl] at hc
  exact List.mem_of_mem_drop (List.mem_of_mem_take hc))
theorem lf_cutA (a : Str) (lo hi : Option Int) : LFn (cutS a lo hi) ≤ LFn a := by
  unfold LFn
  rw [cutS_tl]
  exact List.Sublist.count_le _ ((List.take_sublist _ _).trans (List.drop_sublist _ _))
theorem sum_set : ∀ (W : List Str) (m : Nat) (z : Str), ((W.set m z).map (·.length)).sum ≤ (W.map (·.length)).sum + z.length
  | [], _, _ => Nat.zero_le _
  | w :: W, 0, z => by
    show z.length + (W.map (·.length)).sum ≤ w.length + (W.map (·.length)).sum + z.length
    omega
  | w :: W, m + 1, z => by
    have h := sum_set W m z
    show w.length + ((W.set m z).map (·.length)).sum ≤ w.length + (W.map (·.length)).sum + z.length
    omega
theorem okB3 {a : Str} (hc : ChA pN a) (hl : a.length ≤ 20000) (hf : LFn a ≤ 20) {c : Nat} (h : pN c = true) (l1 h1 l2 h2 : Option Int) : OkB (cutS a l1 h1 ++ (⟨#[c]⟩ : Str) ++ cutS a l2 h2) := by
  have a1 := cutS_length a l1 h1
  have a2 := cutS_length a l2 h2
  have b1 := lf_cutA a l1 h1
  have b2 := lf_cutA a l2 h2
  have c1 : LFn (⟨#[c]⟩ : Str) ≤ 1 := by
    show [c].count 10 ≤ 1
    exact List.count_le_length
  have o : (⟨#[c]⟩ : Str).length = 1 := rfl
  refine ⟨ch_app (ch_app (ch_cutA hc _ _) (fun d hd => by
    have hd : d ∈ [c] := hd
    rw [List.mem_singleton.mp hd]
    exact h)) (ch_cutA hc _ _), ?_, ?_⟩
  · rw [strLen_append, strLen_append, o]
    omega
  · rw [lf_app, lf_app]
    omega
theorem okB2 {a : Str} (hc : ChA pN a) (hl : a.length ≤ 20000) (hf : LFn a ≤ 20) (l1 h1 l2 h2 : Option Int) : OkB (cutS a l1 h1 ++ cutS a l2 h2) := by
  have a1 := cutS_length a l1 h1
  have a2 := cutS_length a l2 h2
  have b1 := lf_cutA a l1 h1
  have b2 := lf_cutA a l2 h2
  refine ⟨ch_app (ch_cutA hc _ _) (ch_cutA hc _ _), ?_, ?_⟩
  · rw [strLen_append]
    omega
  · rw [lf_app]
    omega
theorem lines_map (A X B : List Str) : (A ++ (X ++ B)).map D.str = A.map D.str ++ X.map D.str ++ B.map D.str := by
  rw [List.map_append, List.map_append, List.append_assoc]
end Va

set_option maxRecDepth 100000
set_option maxHeartbeats 2000000
namespace Va
open PySem PySem.Spec PyProof.Rows L2 Fd

/-! ### a body is no longer than its listing -/
theorem join_len (y a : Str) (l : List Str) : (Txt.join y (a :: l)).length = ((a :: l).map (·.length)).sum + l.length * y.length := by
  rw [TL.join_eq]
  exact PyProof.Rows.len_join_cons y a l
theorem sgS_pos {i : Int} (h : OkS i) : 1 ≤ (sgS i).length := by
  have all : ∀ n : Fin 100, 1 ≤ (sgS (n.val : Int)).length := by decide +kernel
  obtain ⟨n, rfl⟩ := Int.eq_ofNat_of_zero_le h.1
  exact all ⟨n, by have := h.2; omega⟩
theorem sum_ge {l : List Str} (h : ∀ x ∈ l, 1 ≤ x.length) : l.length ≤ (l.map (·.length)).sum := by
  induction l with
  | nil => exact Nat.zero_le _
  | cons x l ih =>
    have a := h x List.mem_cons_self
    have b := ih fun y hy => h y (List.mem_cons_of_mem _ hy)
    rw [List.map_cons, List.sum_cons, List.length_cons]
    omega
theorem itI_le {i : Itm} (h : ItOk i) : (itI i).length ≤ (itS i).length := by
  have o : (" " : Str).length = 1 := by decide
  cases i with
  | put xs =>
    have e := join_len " " "put" (xs.map sgS)
    have z := sum_ge (l := xs.map sgS) fun x hx => by
      obtain ⟨k, hk, rfl⟩ := List.mem_map.mp hx
      exact sgS_pos (h.1 k hk)
    have o2 : ("put" : Str).length = 3 := by decide
    show xs.length + 2 ≤ (Txt.join " " ("put" :: xs.map sgS)).length
    rw [e, List.map_cons, List.sum_cons, o, o2]
    simp only [List.length_map] at z ⊢
    omega
  | plus k =>
    show 2 ≤ (Txt.join " " ["plus", sgS k]).length
    rw [join_len, List.map_cons, List.sum_cons]
    have o2 : ("plus" : Str).length = 4 := by decide
    omega
  | own j k =>
    show 3 ≤ (Txt.join " " ["own", sgS j, sgS k]).length
    rw [join_len, List.map_cons, List.sum_cons]
    have o2 : ("own" : Str).length = 3 := by decide
    omega
theorem itsI_sum : ∀ {is : List Itm}, (∀ i ∈ is, ItOk i) → (itsI is).length ≤ ((is.map itS).map (·.length)).sum
  | [], _ => Nat.zero_le _
  | i :: is, h => by
    have a := itI_le (h i List.mem_cons_self)
    have b := itsI_sum (is := is) fun x hx => h x (List.mem_cons_of_mem _ hx)
    show (itI i ++ itsI is).length ≤ (itS i).length + ((is.map itS).map (·.length)).sum
    rw [List.length_append]
    omega
theorem itsI_les {is : List Itm} (h : ∀ i ∈ is, ItOk i) : (itsI is).length ≤ (itsS is).length := by
  cases is with
  | nil => exact Nat.zero_le _
  | cons i is =>
    have a := itsI_sum h
    have e : (itsS (i :: is)).length = _ := join_len ", " (itS i) (is.map itS)
    rw [e]
    have a : (itsI (i :: is)).length ≤ ((itS i :: is.map itS).map (·.length)).sum := a
    omega
theorem ruI_le {u : Ru} (h : RuOk u) : (ruI u).length ≤ (ruS u).length := by
  have a := itsI_les h.its
  have b := sgS_pos (show OkS u.stand from h.st)
  have hw := h.wd
  obtain ⟨s, wd, is, nx⟩ := u
  have a : (itsI is).length ≤ (itsS is).length := a
  have b : 1 ≤ (sgS s).length := b
  have o1 : (" " : Str).length = 1 := by decide
  have o2 : (": " : Str).length = 2 := by decide
  have o3 : (" > " : Str).length = 3 := by decide
  have w : (wdI wd).length ≤ 2 := by cases wd <;> simp [wdI]
  have c : 1 ≤ (wdS wd).length := by
    cases wd with
    | sign x => exact sgS_pos hw
    | other => decide
    | fin => decide
  have l : (ruI ⟨s, wd, is, nx⟩).length = 1 + ((wdI wd).length + (1 + ((itsI is).length + (nxI nx).length))) := by
    simp [ruI]
    omega
  rw [l]
  cases nx with
  | none =>
    show _ ≤ (sgS s ++ " " ++ wdS wd ++ ": " ++ itsS is).length
    rw [strLen_append, strLen_append, strLen_append, strLen_append]
    have y : (nxI none).length = 0 := rfl
    omega
  | some n =>
    show _ ≤ (sgS s ++ " " ++ wdS wd ++ ": " ++ itsS is ++ " > " ++ sgS n).length
    rw [strLen_append, strLen_append, strLen_append, strLen_append, strLen_append, strLen_append]
    have y : (nxI (some n)).length = 1 := rfl
    omega
theorem rusI_rows : ∀ {us : List Ru}, RusOk us → (rusI us).length ≤ ((us.map ruS).map (·.length)).sum
  | [], _ => Nat.zero_le _
  | u :: us, h => by
    have a := ruI_le (h u List.mem_cons_self)
    have b := rusI_rows (us := us) fun x hx => h x (List.mem_cons_of_mem _ hx)
    show (ruI u ++ rusI us).length ≤ (ruS u).length + ((us.map ruS).map (·.length)).sum
    rw [List.length_append]
    omega
/-! ### what both tell of a text -/
structure ResOk (r : D) : Prop where
  s : Sh 2 r
  f : Fn (py r) 12000000 2
theorem res_bad {i : Int} (h : i.natAbs ≤ 1000) : ResOk (.tup [.str "text", .int i]) := ⟨(sh_bad (w := "text") (by decide +kernel) i).le (by decide), by
  rw [py, pys, pys, pys, py, py]
  refine (Fn.tup (n := 46) (k := 0) fun d hd => ?_).le (by simp) (by decide)
  rcases List.mem_cons.mp hd with rfl | hd
  · exact (Fn.str (n := 6) (by decide +kernel)).le (by decide) (by decide)
  · rw [List.mem_singleton.mp hd]
    exact Fn.int (Nat.lt_of_le_of_lt h (by decide))⟩
theorem res_told {s : Int} {us : List Ru} (hs : OkS s) (hu : RusOk us) (hl : (rusI us).length ≤ 200000) : ResOk (.tup [.str "told", iv (bodyI s us)]) := ⟨sh_told (by decide +kernel) _, by
  have hb := bodyI_sgn hu hs
  have l : (bodyI s us).length = (rusI us).length + 1 := rfl
  have z := Fn.iv hb
  have e : py (.tup [.str "told", iv (bodyI s us)]) = .tuple [.str "told", .tuple ((bodyI s us).map PyData.int)] := by
    unfold iv
    rw [py, pys, pys, pys, py, py, pys_ints]
  rw [e]
  refine (FnS (k := 1) (m := 11000000) (fun d hd => ?_) ?_).le (by decide) (by decide)
  · rcases List.mem_cons.mp hd with rfl | hd
    · exact ⟨(Fn.str (x := "told") (n := 6) (by decide +kernel)).show', Nat.le_trans (Fn.str (x := "told") (n := 6) (by decide +kernel)).dep (by decide)⟩
    · rw [List.mem_singleton.mp hd]
      exact ⟨z.show', z.dep⟩
  · rw [PyData.shownAll, PyData.shownAll, PyData.shownAll, piled_cons, piled_cons, piled_nil]
    have a := z.len
    have b := (Fn.str (x := "told") (n := 6) (by decide +kernel)).len
    rw [l] at a
    omega⟩
theorem sh_o (o : Option Int) : Sh 0 (oD o) := by
  cases o with
  | none => exact Sh.non
  | some i => exact Sh.int i
theorem sh_str {a : Str} (h : ChA pN a) : Sh 0 (.str a) := Sh.str (by
  rw [PyData.canLay0]
  show a.cps.all _ = true
  rw [← Array.all_toList, List.all_eq_true]
  exact h)
theorem sh_itr {a : Str} (h : ChA pN a) : Sh 2 (itDr a) := by
  unfold itDr
  have hc := ch_split (y := " ") h
  cases hs : Txt.split a " " with
  | nil => exact Sh.non.le (by decide)
  | cons w ss =>
    rw [hs] at hc
    have hw := sh_str (hc w List.mem_cons_self)
    have hx : ∀ d ∈ ss.map (fun s => oD (sgOf s)), Sh 0 d := fun d hd => by
      obtain ⟨s, _, rfl⟩ := List.mem_map.mp hd
      exact sh_o _
    show Sh 2 (if w = "put" then .tup [.str w, .tup (ss.map fun s => oD (sgOf s))] else .tup (.str w :: ss.map fun s => oD (sgOf s)))
    split
    · refine .tup fun d hd => ?_
      rcases List.mem_cons.mp hd with rfl | hd
      · exact hw.le (by decide)
      · rw [List.mem_singleton.mp hd]
        exact .tup hx
    · refine (Sh.tup (n := 0) fun d hd => ?_).le (by decide)
      rcases List.mem_cons.mp hd with rfl | hd
      · exact hw
      · exact hx d hd
theorem sh_itsr {a : Str} (h : ChA pN a) : Sh 3 (itsDr a) := by
  unfold itsDr
  split
  · exact (Sh.tup (n := 0) (ds := []) fun _ h => nomatch h).le (by decide)
  · refine .tup fun d hd => ?_
    obtain ⟨s, hs, rfl⟩ := List.mem_map.mp hd
    exact sh_itr (ch_split h s hs)
theorem ch_parts {p : Nat → Bool} {a y : Str} (h : ChA p a) : ChA p (Txt.partition a y).1 ∧ ChA p (Txt.partition a y).2.2 := by
  rw [← PySem.StrLaws.partition_sum a y] at h
  exact ⟨fun c hc => h c (by rw [TL.tl_append, TL.tl_append]; exact List.mem_append_left _ (List.mem_append_left _ hc)), fun c hc => h c (by rw [TL.tl_append]; exact List.mem_append_right _ hc)⟩
theorem sh_wdr (a : Str) : Sh 0 (wdDr a) := by
  unfold wdDr
  split
  · exact Sh.str (by decide +kernel)
  · exact sh_o _
theorem sh_read {r : Str} (h : ChA pN r) : Sh 60 (ruDr r) := by
  have h1 := ch_parts (y := ": ") h
  unfold ruDr
  split
  · refine (Sh.tup (n := 3) fun d hd => ?_).le (by decide)
    rcases List.mem_cons.mp hd with rfl | hd
    · exact (sh_o _).le (by decide)
    rcases List.mem_cons.mp hd with rfl | hd
    · exact (Sh.str (by decide +kernel)).le (Nat.zero_le 3)
    rcases List.mem_cons.mp hd with rfl | hd
    · exact sh_itsr h1.2
    · rw [List.mem_singleton.mp hd]
      exact Sh.non.le (by decide)
  · have h3 := ch_parts (y := " > ") h1.2
    refine (Sh.tup (n := 3) fun d hd => ?_).le (by decide)
    rcases List.mem_cons.mp hd with rfl | hd
    · exact (sh_o _).le (by decide)
    rcases List.mem_cons.mp hd with rfl | hd
    · exact (sh_wdr _).le (by decide)
    rcases List.mem_cons.mp hd with rfl | hd
    · exact sh_itsr h3.1
    · rw [List.mem_singleton.mp hd]
      exact (sh_o _).le (by decide)
/-- what both tell of a text -/
theorem both_dec {a : Str} (h : OkB a) : ∃ r : D, ResOk r ∧ ∀ Q : D → Prop, Q r → Both a (fun i => Q (.tup [.str "text", .int i])) (fun s us => Q (.tup [.str "told", iv (bodyI s us)])) := by
  have hw := PyProof.Rows.split_weight a "\n" (by decide)
  have hr := rows_len a
  have hp := PyProof.Rows.split_pos a "\n"
  have hc := ch_split (y := "\n") h.c
  have hl := h.l
  have hf := h.f
  cases hsp : Txt.split a "\n" with
  | nil => rw [hsp] at hp; exact absurd hp (by decide)
  | cons r0 rest =>
  rw [hsp, List.map_cons, List.sum_cons, List.length_cons] at hw
  rw [hsp, List.length_cons] at hr
  rw [hsp] at hc
  have h9 : rest.length ≤ 900 := by omega
  cases hst : stOf r0 with
  | none => exact ⟨_, res_bad (i := 0) (by decide), fun Q q => ⟨r0, rest, hsp, h9, .inl ⟨hst, q⟩⟩⟩
  | some s =>
  have os : OkS s := by
    unfold stOf at hst
    split at hst
    · exact (sgOf_is hst).1
    · cases hst
  obtain ⟨us, hu, hd⟩ := rows_dec rest
  rcases hd with e | ⟨r, e1, e2, e3⟩
  · have hs := rusI_rows hu
    rw [← e] at hs
    exact ⟨_, res_told os hu (by omega), fun Q q => ⟨r0, rest, hsp, h9, .inr ⟨s, us, hst, os, hu, .inl ⟨e, q⟩⟩⟩⟩
  · have hn := (List.getElem?_eq_some_iff.mp e1).1
    exact ⟨_, res_bad (i := 1 + (us.length : Nat)) (by omega), fun Q q => ⟨r0, rest, hsp, h9, .inr ⟨s, us, hst, os, hu, .inr ⟨r, e1, e2, e3, sh_read (hc r (List.mem_cons_of_mem _ (List.mem_of_getElem? e1))), q⟩⟩⟩⟩
/-- what is handed in -/
def TextD (d : D) : Prop := (∃ a, d = .str a ∧ OkB a) ∨ (noCon d = true ∧ isiD d "str" = false)
theorem text_dec {d : D} (h : TextD d) : ∃ r : D, ResOk r ∧ ∀ (S : Own) (Q : W → Own → Prop) (E : XD), Q (.dat r) S → sdBoth [.dat d] S Q E := by
  rcases h with ⟨a, rfl, h⟩ | ⟨h1, h2⟩
  · obtain ⟨r, h1, h2⟩ := both_dec h
    exact ⟨r, h1, fun S Q E q => ⟨_, rfl, rfl, .inr ⟨a, rfl, Nat.le_trans h.l (by decide), h2 (fun r => Q (.dat r) S) q⟩⟩⟩
  · exact ⟨_, res_bad (i := -1) (by decide), fun S Q E q => ⟨d, rfl, h1, .inl ⟨h2, q⟩⟩⟩
theorem odd_text {d : D} (h : OddD d) : TextD d := by
  rcases h with ⟨h1, h2 | h2 | h2⟩
  · exact .inr ⟨h1, h2⟩
  · exact .inl ⟨_, h2, ch_lit (by decide +kernel), by decide, by decide +kernel⟩
  · exact .inl ⟨_, h2, ch_lit (by decide +kernel), by decide, by decide +kernel⟩
theorem pDN (c : Nat) (h : pD c = true) : pM c = true := by
  have z : c < 123 := by
    unfold pD pC pB pA at h
    simp at h
    omega
  have y : ¬ (c = 10) := fun e => by
    rw [e] at h
    exact absurd h (by decide)
  unfold pM
  rw [decide_eq_true (show c < 1114112 by omega)]
  simpa using y
theorem okBo {s : Int} {rs : List Ru} (hs : OkS s) (h : RusOk rs) (f : ∀ r ∈ rs, r.items.length ≤ 3) (l : rs.length ≤ 6) : OkB (boS s rs) ∧ (boS s rs).length ≤ 20000 ∧ LFn (boS s rs) ≤ 20 := by
  have hc : ∀ x ∈ ("start " ++ sgS s) :: rs.map ruS, ChA pM x := fun x hx => by
    rcases List.mem_cons.mp hx with rfl | hx
    · exact ch_app (ch_lit (by decide +kernel)) (ch_mono (fun c z => pDN c (pCD c (pBC c (pAB c z)))) (ch_sg hs))
    · obtain ⟨r, hr, rfl⟩ := List.mem_map.mp hx
      exact ch_mono pDN (ch_ru (h r hr))
  have l1 := boS_len hs h
  have l2 := rusI_len3 h f
  have l3 := lf_join hc
  have l4 : LFn (boS s rs) ≤ rs.length + 1 := by
    rw [List.length_cons, List.length_map] at l3
    exact l3
  exact ⟨⟨ch_join (ch_lit (by decide +kernel)) fun x hx => ch_mono pMN (hc x hx), by omega, by omega⟩, by omega, by omega⟩
end Va

set_option maxRecDepth 100000
set_option maxHeartbeats 2000000
namespace Va
open PySem PySem.Spec PyProof.Rows L2 Fd

/-! ### a thing == a text -/
section
open PySem.AutoSeq1 (wpAny_loadPart')
open PySem.MeetsSeq
theorem str_eq_declines_obj (b : Str) (u : Tok) (l : Addr) (o : Obj) :
    Meets (Builtin.«str.__eq__» ⟨[.str b u, .ref l], []⟩) (fun _ R s => s.heap.get? l = some o ∧ (∃ d ep, o.data = .dict d ep) ∧ R (.ok (.ret .notImplemented)) s) :=
  .of_wp fun prog w A R s h => by
    obtain ⟨hp, g, d, tk, os⟩ := s
    obtain ⟨hl, ⟨dd, ep, hd⟩, h⟩ := h
    obtain ⟨cls, dc, data, sl⟩ := o
    simp only at hd
    subst hd
    wp_walk using wpAny_loadPart' hl, wpAny_load hl
    exact ⟨_, rfl, h⟩
theorem rc_dict_str {A : Around} {s : Shared} {a : Addr} {o : Obj} (hl : s.heap.get? a = some o) (hd : ∃ d ep, o.data = .dict d ep) (hT : s.TypeIs (.ref a) "dict") (hu : A.units < cLine) (b : Str) (u : Tok) :
    SeqAt.RcAt A s (.ref a) (.str b u) false := fun prog w E Q h => by
  refine SeqAt.rc_eq_decline_or (k := false) hT (typeIs_str s b u) (by decide) PySem.F.sub_str_dict PySem.F.slot_dict_eq PySem.F.slot_str_eq_refl
    (fun Q' hq => wpAny_call_entry PySem.F.slot_dict_eq hT PySem.F.entry_dict_eq ?_ (PySem.F.args_dict_eq_2 _ _))
    (fun _ hq => call_meets PySem.F.slot_str_eq_refl (typeIs_str s b u) PySem.F.entry_str_eq (PySem.F.args_str_eq_2 _ _) (str_eq_declines_obj b u a o) ⟨hl, hd, hq⟩)
    (fun _ hq => wpAny_of_eq (rfl : isSame (.ref a) (.str b u) = pure false) hq) (.inr hu) h
  show wpAny _ _ (Builtin.Dict.dictSlotArgs "__eq__" ⟨[.ref a, .str b u], []⟩ >>= _) _ _ s
  refine wpAny_bind ?_
  unfold Builtin.Dict.dictSlotArgs
  refine wpAny_bind (wpAny_notOrdered_dict hT ?_)
  show wpAny _ _ (pure (Value.ref a, Value.str b u)) _ _ s
  refine wpAny_pure ?_
  refine wpAny_bind (wpAny_isInstance (T := "str") (typeIs_str s b u) PySem.F.sub_str_dict ?_)
  simp only [Bool.not_false, if_true]
  refine wpAny_bind (wpAny_rule ?_)
  exact wpAny_pure ⟨_, rfl, hq⟩
end
/-- x == y where y is a text and x no class, no object -/
def rEqT (K : PySem.W.Frag) : R2 := fun x y H Q => ∃ t : Str, y = .str t ∧
  ((scal x y = true ∧ Q (.bl (decide (x = y))) H) ∨ ∃ a : Addr, x = .ref a ∧ ((∃ xs, H a = some (.lst xs)) ∨ (∃ xs, H a = some (.tup xs)) ∨ (∃ kvs, H a = some (.dK kvs)) ∨ ∃ kvs, H a = some (.dT kvs)) ∧ Q (.bl false) H)
theorem op_eqT {X : Cx} (hu : X.A.units + 64 < cLine) : OpR X (compareOp .Eq) (rEqT X.K) := by
  rintro pins s σ H x y v u Q I rx ry ⟨t, rfl, h⟩
  rcases h with h | ⟨a, rfl, h, q⟩
  · exact op_eq pins s σ H _ _ v u Q I rx ry h
  · obtain rfl : v = Value.ref a := rx
    obtain ⟨tk, rfl⟩ : ∃ tk, u = Value.str t tk := ry
    have fin : SeqAt.RcAt X.A s (.ref a) (.str t tk) false → wpAny (model X.prog X.w) X.A (compareOp .Eq (.ref a) (.str t tk)) (EP X pins σ Q) X.xe s := fun z =>
      z X.prog X.w _ _ ⟨.bl _, H, I, rfl, q⟩
    rcases h with ⟨xs, h⟩ | ⟨xs, h⟩ | ⟨kvs, h⟩ | ⟨kvs, h⟩
    · have z1 : ObjOk X.prog X.w H s.heap a (.lst xs) := I.hok a _ h
      obtain ⟨_, us, n, r1, g1⟩ := z1
      exact fin (SeqAt.RcAt.list_str t tk ⟨_, g1, rfl, _, rfl⟩ (by omega))
    · have z1 : ObjOk X.prog X.w H s.heap a (.tup xs) := I.hok a _ h
      obtain ⟨_, us, r1, g1⟩ := z1
      exact fin (SeqAt.RcAt.tuple_str t tk g1 (by omega))
    · have z1 : ObjOk X.prog X.w H s.heap a (.dK kvs) := I.hok a _ h
      obtain ⟨_, lo, vs, rk, hd⟩ := z1
      obtain ⟨o, es, ep, e, _, c, _⟩ := id hd
      exact fin (rc_dict_str e ⟨_, _, c⟩ hd.typeIs (by omega) t tk)
    · have z1 : ObjOk X.prog X.w H s.heap a (.dT kvs) := I.hok a _ h
      obtain ⟨_, lo, xs, _, o, es, ep, e, ex, c, _⟩ := z1
      exact fin (rc_dict_str e ⟨_, _, c⟩ ⟨o, e, ex.1⟩ (by omega) t tk)
end Va

set_option maxRecDepth 100000
set_option maxHeartbeats 2000000
namespace Va
open PySem PySem.Spec PyProof.Rows L2 Fd

/-! ### data that may hold {} -/
mutual
def puW : D → Bool
  | .con _ => false
  | .ins _ _ _ => false
  | .dck _ _ => false
  | .dct _ _ => false
  | .lst ds => puWs ds
  | .tup ds => puWs ds
  | _ => true
def puWs : List D → Bool
  | [] => true
  | d :: ds => puW d && puWs ds
end
mutual
theorem Dv.daW {K : PySem.W.Frag} {H : Hp} {P : FP} (hp : ∀ a o, P a o → H a = some o) : ∀ (d : D) (v : V), Dv P v d → puW d = true → Da K H v (py d)
  | .non, _, h, _ => by cases h; exact .non
  | .bl _, _, h, _ => by cases h; exact .bl _
  | .int _, _, h, _ => by cases h; exact .int _
  | .str _, _, h, _ => by cases h; exact .str _
  | .con _, _, _, z => by rw [puW] at z; cases z
  | .ins _ _ _, _, _, z => by rw [puW] at z; cases z
  | .dck _ _, _, _, z => by rw [puW] at z; cases z
  | .dct _ _, _, _, z => by rw [puW] at z; cases z
  | .dic _, _, h, _ => by
    cases h with
    | dic e => rw [py]; exact .dic (hp _ _ e)
  | .lst ds, _, h, z => by
    rw [puW] at z
    cases h with
    | lst e l => rw [py]; exact .lst (hp _ _ e) (DvAll.daW hp ds _ l z)
  | .tup ds, _, h, z => by
    rw [puW] at z
    cases h with
    | tup e l => rw [py]; exact .tup (hp _ _ e) (DvAll.daW hp ds _ l z)
theorem DvAll.daW {K : PySem.W.Frag} {H : Hp} {P : FP} (hp : ∀ a o, P a o → H a = some o) : ∀ (ds : List D) (vs : List V), DvAll P vs ds → puWs ds = true → DaAll K H vs (pys ds)
  | [], _, h, _ => by cases h; rw [pys]; exact .nil
  | d :: ds, _, h, z => by
    rw [puWs, Bool.and_eq_true] at z
    cases h with
    | cons a b => rw [pys]; exact .cons (Dv.daW hp d _ a z.1) (DvAll.daW hp ds _ b z.2)
end
theorem Vw.daW {K : PySem.W.Frag} {O : List Addr} {S : Own} {H : Hp} {v : V} {d : D} (h : Vw (Fz O S H) H v d) (z : puW d = true) : Da K H v (py d) := by
  cases d with
  | lst ds =>
    obtain ⟨a, xs, rfl, e, l⟩ := h
    rw [puW] at z
    rw [py]
    exact .lst e (DvAll.daW fz_hp ds _ l z)
  | tup ds =>
    obtain ⟨a, xs, rfl, e, l⟩ := h
    rw [puW] at z
    rw [py]
    exact .tup e (DvAll.daW fz_hp ds _ l z)
  | non => exact Dv.daW fz_hp _ _ h z
  | bl b => exact Dv.daW fz_hp _ _ h z
  | int i => exact Dv.daW fz_hp _ _ h z
  | str x => exact Dv.daW fz_hp _ _ h z
  | con x => rw [puW] at z; cases z
  | ins _ _ _ => rw [puW] at z; cases z
  | dck _ _ => rw [puW] at z; cases z
  | dct _ _ => rw [puW] at z; cases z
  | dic a =>
    obtain ⟨rfl, e⟩ := h
    rw [py]
    exact .dic e
mutual
theorem puW_of : ∀ d : D, pure' d = true → puW d = true
  | .non, _ => rfl
  | .bl _, _ => rfl
  | .int _, _ => rfl
  | .str _, _ => rfl
  | .con _, z => by rw [pure'] at z; cases z
  | .ins _ _ _, z => by rw [pure'] at z; cases z
  | .dic _, _ => rfl
  | .dck _ _, z => by rw [pure'] at z; cases z
  | .dct _ _, z => by rw [pure'] at z; cases z
  | .lst ds, z => by rw [pure'] at z; rw [puW]; exact puWs_of ds z
  | .tup ds, z => by rw [pure'] at z; rw [puW]; exact puWs_of ds z
theorem puWs_of : ∀ ds : List D, pures ds = true → puWs ds = true
  | [], _ => rfl
  | d :: ds, z => by
    rw [pures, Bool.and_eq_true] at z
    rw [puWs, puW_of d z.1, puWs_of ds z.2]
    rfl
end
theorem puWs_all {ds : List D} (h : puWs ds = true) : ∀ d ∈ ds, puW d = true := by
  induction ds with
  | nil => exact fun _ z => nomatch z
  | cons a ds ih =>
    rw [puWs, Bool.and_eq_true] at h
    intro d hd
    rcases List.mem_cons.mp hd with rfl | hd
    · exact h.1
    · exact ih h.2 d hd
theorem puWs_mk {ds : List D} (h : ∀ d ∈ ds, puW d = true) : puWs ds = true := by
  induction ds with
  | nil => rfl
  | cons a ds ih =>
    rw [puWs, h a List.mem_cons_self, ih fun d hd => h d (List.mem_cons_of_mem _ hd)]
    rfl
theorem puW_tm {ds : List D} (h : puW (.tup ds) = true) : ∀ d ∈ ds, puW d = true := puWs_all (by rw [puW] at h; exact h)
theorem puW_lm {ds : List D} (h : puW (.lst ds) = true) : ∀ d ∈ ds, puW d = true := puWs_all (by rw [puW] at h; exact h)
theorem puW_qm {b : Bool} {ds : List D} (h : puW (sq b ds) = true) : ∀ d ∈ ds, puW d = true := by
  cases b
  · exact puW_tm h
  · exact puW_lm h
theorem puW_nc {d : D} (h : puW d = true) : noCon d = true := by
  cases d with
  | con _ => rw [puW] at h; cases h
  | ins _ _ _ => rw [puW] at h; cases h
  | _ => rfl
section
variable {P : Program} {w : World} {K : PySem.W.Frag} {mg : Str → Option Value} {base : Heap}
/-- a judge of data, {} and all -/
def sdDW (f : PyData → Bool) : SpD := fun ws S Q _ => ∃ w d, ws = [w] ∧ Pk S w d ∧ puW d = true ∧ Q (.dat (.bl (f (py d)))) S
theorem spD_w {k : Nat} {x : Str} {ps : List Str} {f : PyData → Bool} (C : Fd.Pr P w K mg base k x ps (spD K f)) : Fd.Pr P w K mg base k x ps (lift (sdDW f)) := by
  obtain ⟨fa, fd, g, kp, b, F⟩ := C.ex
  refine ⟨fa, fd, g, kp, b, F.imp ?_⟩
  rintro vs H Q E ⟨O, S, ws, Qd, Ed, st, rs, ⟨w, d, rfl, pk, z, q⟩, L, _⟩
  obtain ⟨v, rfl, r⟩ := rs.one
  refine ⟨v, py d, rfl, (pk_vw st r pk).daW z, fun H' s => ?_⟩
  obtain ⟨k1, k2⟩ := own_keep st s
  exact L.q _ S O _ H' q k2 k1 (.bl _)
end
/-- repr -/
def rdReprW : RCd := fun ws δ Q => ∃ w d, ws = [w] ∧ Pk δ.own w d ∧ puW d = true ∧ (py d).showable = true ∧ (py d).shown.length ≤ sizeLine ∧ (py d).depth ≤ 50 ∧ Q (.dat (.str (py d).shown)) δ
theorem up_reprW {K : PySem.W.Frag} : UpC (rRepr K) rdReprW := by
  rintro B O σ H δ vs ws Qd Q R rs ⟨w, d, rfl, p, z, h1, h2, h3, q⟩ L
  obtain ⟨v, rfl, r⟩ := rs.one
  exact ⟨v, py d, rfl, (pk_vw R.st r p).daW z, h1, h2, h3, L _ δ O _ H q .refl R (.str _)⟩

/-! ### a thing == a text -/
theorem eqv_str (d : PyData) (t : Str) (h : ∀ x, d ≠ .str x) : PyData.eqv d (.str t) = false := by
  cases d with
  | str x => exact absurd rfl (h x)
  | _ => simp [PyData.eqv]
theorem eqD_text (x t : Str) : eqD (.str x) (.str t) = decide (x = t) := by
  unfold eqD
  rw [py, py]
  simp [PyData.eqv]
  try rfl
theorem eqD_no {d : D} (t : Str) (h : isiD d "str" = false) (nc : noCon d = true) : eqD d (.str t) = false := by
  unfold eqD
  rw [show py (.str t) = .str t from by rw [py]]
  refine eqv_str _ _ fun x e => ?_
  cases d with
  | str y => exact Bool.noConfusion h
  | con _ => exact Bool.noConfusion nc
  | ins _ _ _ => exact Bool.noConfusion nc
  | _ => rw [py] at e; cases e
def rdEqT : R2d := fun w u δ Q => ∃ d t, w = .dat d ∧ u = .dat (.str t) ∧ noCon d = true ∧ Q (.dat (.bl (eqD d (.str t)))) δ
theorem o_eqT {X : Cx} (hu : X.A.units + 64 < cLine) : OpR X (compareOp .Eq) (rEqT X.K) ∧ Up2 (rEqT X.K) rdEqT := ⟨op_eqT hu, by
  rintro B O σ H δ x y w u Qd Q R rx ry ⟨d, t, rfl, rfl, nc, q⟩ L
  have rx : Dv (Fz O δ.own H) x d := rx
  cases ry
  have fin : ∀ b, eqD d (.str t) = b → Q (.bl b) H := fun b e => by
    rw [e] at q
    exact L _ δ O _ H q .refl R (.bl b)
  have no : isiD d "str" = false → Q (.bl false) H := fun h => fin false (eqD_no t h nc)
  refine ⟨t, rfl, ?_⟩
  cases rx with
  | non => exact .inl ⟨rfl, no rfl⟩
  | bl b => exact .inl ⟨rfl, no rfl⟩
  | int i => exact .inl ⟨rfl, no rfl⟩
  | str z =>
    refine .inl ⟨rfl, fin _ ?_⟩
    rw [eqD_text]
    exact decide_eq_decide.mpr ⟨fun e => by rw [e], fun e => by injection e⟩
  | con v => exact Bool.noConfusion nc
  | lst e l => exact .inr ⟨_, rfl, .inl ⟨_, e.1⟩, no rfl⟩
  | tup e l => exact .inr ⟨_, rfl, .inr (.inl ⟨_, e.1⟩), no rfl⟩
  | ins _ _ _ _ => exact Bool.noConfusion nc
  | dic e => exact .inr ⟨_, rfl, .inr (.inr (.inl ⟨_, e.1⟩)), no rfl⟩
  | dck e _ _ => exact .inr ⟨_, rfl, .inr (.inr (.inl ⟨_, e.1⟩)), no rfl⟩
  | dct e _ _ => exact .inr ⟨_, rfl, .inr (.inr (.inr ⟨_, e.1⟩)), no rfl⟩⟩

/-! ### the same data twice -/
mutual
theorem Dv.al {O : List Addr} {S : Own} {H : Hp} : ∀ (d : D) (v w : V), Dv (Fz O S H) v d → Dv (Fz O S H) w d → puW d = true → Al H (PyData.depth (py d)) v w
  | .non, _, _, h, h', _ => by cases h; cases h'; exact .same rfl
  | .bl _, _, _, h, h', _ => by cases h; cases h'; exact .same rfl
  | .int _, _, _, h, h', _ => by cases h; cases h'; exact .same rfl
  | .str _, _, _, h, h', _ => by cases h; cases h'; exact .same rfl
  | .con _, _, _, _, _, z => by rw [puW] at z; cases z
  | .ins _ _ _, _, _, _, _, z => by rw [puW] at z; cases z
  | .dic _, _, _, h, h', _ => by cases h; cases h'; exact .same rfl
  | .dck _ _, _, _, _, _, z => by rw [puW] at z; cases z
  | .dct _ _, _, _, _, _, z => by rw [puW] at z; cases z
  | .lst ds, _, _, h, h', z => by
    rw [puW] at z
    rw [py, PyData.depth]
    cases h with
    | lst e1 l1 =>
      cases h' with
      | lst e2 l2 => exact .both (.lst e1.1 e2.1 (l1.len.trans l2.len.symm) (DvAll.al ds _ _ l1 l2 z))
  | .tup ds, _, _, h, h', z => by
    rw [puW] at z
    rw [py, PyData.depth]
    cases h with
    | tup e1 l1 =>
      cases h' with
      | tup e2 l2 => exact .both (.tup e1.1 e2.1 (l1.len.trans l2.len.symm) (DvAll.al ds _ _ l1 l2 z))
theorem DvAll.al {O : List Addr} {S : Own} {H : Hp} : ∀ (ds : List D) (vs ws : List V), DvAll (Fz O S H) vs ds → DvAll (Fz O S H) ws ds → puWs ds = true → ∀ (i : Nat) (u v : V), vs[i]? = some u → ws[i]? = some v → Al H (PyData.depthAll (pys ds)) u v
  | [], _, _, h, _, _, i, u, v, e, _ => by
    cases h
    simp at e
  | d :: ds, _, _, h, h', n, i, u, v, e1, e2 => by
    rw [puWs, Bool.and_eq_true] at n
    rw [pys, PyData.depthAll]
    cases h with
    | cons a1 a2 =>
      cases h' with
      | cons b1 b2 =>
        cases i with
        | zero =>
          cases e1
          cases e2
          exact (Dv.al d _ _ a1 b1 n.1).mono (Nat.le_max_left _ _)
        | succ i => exact (DvAll.al ds _ _ a2 b2 n.2 i u v (by simpa using e1) (by simpa using e2)).mono (Nat.le_max_right _ _)
end
def rdSame (k : Bool) : R2d := fun w u δ Q => ∃ ds, w = .dat (.tup ds) ∧ u = .dat (.tup ds) ∧ puWs ds = true ∧ PyData.depthAll (pys ds) ≤ 40 ∧ Q (.dat (.bl k)) δ
theorem same_al {O : List Addr} {S : Own} {H : Hp} {ds : List D} {x y : V} (hx : Dv (Fz O S H) x (.tup ds)) (hy : Dv (Fz O S H) y (.tup ds)) (z : puWs ds = true) : Al2 H (PyData.depthAll (pys ds)) x y := by
  cases hx with
  | tup e1 l1 =>
    cases hy with
    | tup e2 l2 => exact .tup e1.1 e2.1 (l1.len.trans l2.len.symm) (DvAll.al ds _ _ l1 l2 z)
theorem o_neSame {X : Cx} (hu : X.A.units + 64 < cLine) : OpR X (compareOp .NotEq) rNeL ∧ Up2 rNeL (rdSame false) :=
  ⟨fun pins s σ H x y v u Q I rx ry h => op_neL hu pins s σ H x y v u Q I rx ry h, by
  rintro B O σ H δ x y w u Qd Q R rx ry ⟨ds, rfl, rfl, z, k, q⟩ L
  exact ⟨⟨_, by omega, same_al rx ry z⟩, L _ δ O _ H q .refl R (.bl _)⟩⟩
theorem o_eqSame {X : Cx} (hu : X.A.units + 64 < cLine) : OpR X (compareOp .Eq) rEqL ∧ Up2 rEqL (rdSame true) :=
  ⟨fun pins s σ H x y v u Q I rx ry h => op_eqL hu pins s σ H x y v u Q I rx ry h, by
  rintro B O σ H δ x y w u Qd Q R rx ry ⟨ds, rfl, rfl, z, k, q⟩ L
  exact ⟨⟨_, by omega, same_al rx ry z⟩, L _ δ O _ H q .refl R (.bl _)⟩⟩
/-! ### judges, answers -/
def sdJW (f : D → Bool) : SpD := fun ws S Q _ => ∃ d, ws = [.dat d] ∧ puW d = true ∧ Q (.dat (.bl (f d))) S
def itemsD : D → Option (List D)
  | .lst ds => some ds
  | .tup ds => some ds
  | _ => none
def badAt : List D → Option Nat
  | [] => none
  | d :: ds => if ruD d then (badAt ds).map (· + 1) else some 0
theorem badAt_all : ∀ {ds : List D}, ds.all ruD = true → badAt ds = none
  | [], _ => rfl
  | d :: ds, h => by
    rw [List.all_cons, Bool.and_eq_true] at h
    rw [badAt, if_pos h.1, badAt_all h.2]
    rfl
theorem badAt_at : ∀ {ds : List D} {i : Nat} {d : D}, (ds.take i).all ruD = true → ds[i]? = some d → ruD d = false → badAt ds = some i
  | [], _, _, _, e, _ => by simp at e
  | x :: ds, 0, d, _, e, h => by
    simp at e
    subst e
    rw [badAt, if_neg (by rw [h]; decide)]
  | x :: ds, i + 1, d, a, e, h => by
    rw [List.take_succ_cons, List.all_cons, Bool.and_eq_true] at a
    rw [badAt, if_pos a.1, badAt_at (i := i) (d := d) a.2 (by simpa using e) h]
    rfl
def dueD (s r : D) : List D :=
  if sgD s = true then (match itemsD r with
    | none => [.str "rule", .int (-1)]
    | some ds => match badAt ds with
      | none => [.str "told", .bl true]
      | some i => [.str "rule", .int (i : Nat)])
  else [.str "sign", s]
def sdDue : SpD := fun ws S Q _ => ∃ s r, ws = [.dat s, .dat r] ∧ puW s = true ∧ puW r = true ∧ lenD r ≤ 1000 ∧ Q (.dat (.tup (dueD s r))) S
/-- a body is made, or an error -/
def sdBodyW (cs cr : Addr) : SpD := fun ws S Q E => ∃ s r, ws = [.dat s, .dat r] ∧ puW s = true ∧ puW r = true ∧ lenD r ≤ 1000 ∧ (sgD s = false → E cs s S) ∧
  (sgD s = true → itemsD r = none → E cr (.int (-1)) S) ∧ (∀ ds i, sgD s = true → itemsD r = some ds → badAt ds = some i → E cr (.int (i : Nat)) S) ∧ (∀ ds, sgD s = true → itemsD r = some ds → badAt ds = none → ∀ l : List Int, Q (.dat (.tup (s :: l.map D.int))) S)
def sdRuleW : SpD := fun ws S Q _ => ∃ d, ws = [.dat d] ∧ ruD d = true ∧ puW d = true ∧ ∀ l : List Int, l.length ≤ 11000 → Q (.own S.length) (S ++ [some (.lst (l.map D.int))])
theorem sgD_is {d : D} (h : sgD d = true) : ∃ i, d = .int i ∧ OkS i := by
  unfold sgD at h
  cases d with
  | int i =>
    rw [py] at h
    have h : (decide (0 ≤ i) && decide (i < 100)) = true := h
    rw [Bool.and_eq_true] at h
    exact ⟨i, rfl, of_decide_eq_true h.1, of_decide_eq_true h.2⟩
  | _ => rw [py] at h; exact Bool.noConfusion h
theorem rowD_is {d : D} (h : rowD d = true) : ∃ b xs, d = sq b (xs.map D.int) ∧ Sgn xs := by
  obtain ⟨b, es, rfl⟩ := rowD_seq h
  have h : (pys es).all dSign = true := by
    cases b
    · have h : dRow (py (.tup es)) = true := h
      rw [py] at h
      have h : (true && (pys es).all dSign) = true := h
      rwa [Bool.true_and] at h
    · have h : dRow (py (.lst es)) = true := h
      rw [py] at h
      have h : (true && (pys es).all dSign) = true := h
      rwa [Bool.true_and] at h
  have z : ∀ es : List D, (pys es).all dSign = true → ∃ xs : List Int, es = xs.map D.int ∧ Sgn xs := by
    intro es
    induction es with
    | nil => exact fun _ => ⟨[], rfl, (fun _ h => nomatch h)⟩
    | cons a es ih =>
      intro h
      rw [pys, List.all_cons, Bool.and_eq_true] at h
      obtain ⟨xs, rfl, hx⟩ := ih h.2
      obtain ⟨i, rfl, hi⟩ := sgD_is h.1
      refine ⟨i :: xs, rfl, fun y hy => ?_⟩
      rcases List.mem_cons.mp hy with rfl | hy
      · exact hi
      · exact hx y hy
  obtain ⟨xs, rfl, hx⟩ := z es h
  exact ⟨b, xs, rfl, hx⟩
theorem eqD_is {d : D} {t : Str} (h : eqD d (.str t) = true) : d = .str t ∨ noCon d = false := by
  cases d with
  | str x =>
    rw [eqD_text] at h
    exact .inl (by rw [of_decide_eq_true h])
  | con _ => exact .inr rfl
  | ins _ _ _ => exact .inr rfl
  | _ => rw [eqD_no t rfl rfl] at h; cases h
theorem itD_is {d : D} (h : itD d = true) (p : puW d = true) : ∃ b i, d = Itm.vl b i ∧ ItOk i := by
  cases d with
  | tup ds =>
    have hm := puW_tm p
    rcases ds with _ | ⟨a, _ | ⟨r, _ | ⟨s, _ | ⟨t, ds⟩⟩⟩⟩
    · cases h
    · cases h
    · have h : (if eqD a (.str "put") then rowD r && decide (lenD r ≤ 99) else if eqD a (.str "plus") then sgD r else false) = true := h
      have na : noCon a = true := puW_nc (hm a (by simp))
      by_cases c1 : eqD a (.str "put") = true
      · rw [if_pos c1, Bool.and_eq_true] at h
        obtain ⟨b, xs, rfl, hx⟩ := rowD_is h.1
        have l := of_decide_eq_true h.2
        rw [lenD_sq, List.length_map] at l
        rcases eqD_is c1 with rfl | z
        · exact ⟨b, .put xs, rfl, hx, l⟩
        · rw [z] at na; cases na
      · rw [if_neg c1] at h
        by_cases c2 : eqD a (.str "plus") = true
        · rw [if_pos c2] at h
          obtain ⟨i, rfl, hi⟩ := sgD_is h
          rcases eqD_is c2 with rfl | z
          · exact ⟨false, .plus i, rfl, hi⟩
          · rw [z] at na; cases na
        · rw [if_neg c2] at h
          cases h
    · have h : (eqD a (.str "own") && (sgD r && sgD s)) = true := h
      have na : noCon a = true := puW_nc (hm a (by simp))
      rw [Bool.and_eq_true, Bool.and_eq_true] at h
      obtain ⟨h1, h2, h3⟩ := h
      obtain ⟨i, rfl, hi⟩ := sgD_is h2
      obtain ⟨j, rfl, hj⟩ := sgD_is h3
      rcases eqD_is h1 with rfl | z
      · exact ⟨false, .own i j, rfl, hi, hj⟩
      · rw [z] at na; cases na
    · cases h
  | _ => cases h
theorem ruD_is {d : D} (h : ruD d = true) (p : puW d = true) : ∃ (c : Bool) (s : Int) (w : Wd) (its : List D) (nx : Option Int), d = .tup [.int s, Wd.v w, sq c its, nextV nx] ∧ its.length ≤ 99 ∧ its.all itD = true ∧ ∀ x ∈ its, puW x = true := by
  cases d with
  | tup ds =>
    have hm := puW_tm p
    rcases ds with _ | ⟨st, _ | ⟨wd, _ | ⟨its, _ | ⟨af, _ | ⟨u, ds⟩⟩⟩⟩⟩
    · cases h
    · cases h
    · cases h
    · cases h
    rotate_left
    · cases h
    have h : ((sgD st && itsD its) && (if eqD wd (.str "end") then nonD af else (eqD wd (.str "other") || sgD wd) && sgD af)) = true := h
    rw [Bool.and_eq_true, Bool.and_eq_true] at h
    obtain ⟨⟨h1, h2⟩, h3⟩ := h
    obtain ⟨s, rfl, _⟩ := sgD_is h1
    have nw : noCon wd = true := puW_nc (hm wd (by simp))
    have hi : ∃ c ds, its = sq c ds ∧ ds.length ≤ 99 ∧ ds.all itD = true := by
      cases its with
      | lst ds =>
        have h2 : (decide (ds.length ≤ 99) && ds.all itD) = true := h2
        rw [Bool.and_eq_true] at h2
        exact ⟨true, ds, rfl, of_decide_eq_true h2.1, h2.2⟩
      | tup ds =>
        have h2 : (decide (ds.length ≤ 99) && ds.all itD) = true := h2
        rw [Bool.and_eq_true] at h2
        exact ⟨false, ds, rfl, of_decide_eq_true h2.1, h2.2⟩
      | _ => cases h2
    obtain ⟨c, ds, rfl, l, a⟩ := hi
    have pm := puW_qm (hm (sq c ds) (by simp))
    by_cases e1 : eqD wd (.str "end") = true
    · rw [if_pos e1] at h3
      have e2 : af = .non := by
        cases af with
        | non => rfl
        | _ => cases h3
      subst e2
      rcases eqD_is e1 with rfl | z
      · exact ⟨c, s, .fin, ds, none, rfl, l, a, pm⟩
      · rw [z] at nw; cases nw
    · rw [if_neg e1, Bool.and_eq_true, Bool.or_eq_true] at h3
      obtain ⟨h3, h4⟩ := h3
      obtain ⟨n, rfl, _⟩ := sgD_is h4
      rcases h3 with h3 | h3
      · rcases eqD_is h3 with rfl | z
        · exact ⟨c, s, .other, ds, some n, rfl, l, a, pm⟩
        · rw [z] at nw; cases nw
      · obtain ⟨x, rfl, _⟩ := sgD_is h3
        exact ⟨c, s, .sign x, ds, some n, rfl, l, a, pm⟩
  | _ => cases h
end Va

set_option maxRecDepth 100000
set_option maxHeartbeats 2000000
namespace Va
open PySem PySem.Spec PyProof.Rows L2 Fd

/-! ### data that is short when it is written, {} and all -/
structure Sm (n k : Nat) (d : D) : Prop where
  p : puW d = true
  f : Fn (py d) n k
theorem Sm.le {n k n' k' : Nat} {d : D} (h : Sm n k d) (h1 : n ≤ n') (h2 : k ≤ k') : Sm n' k' d := ⟨h.p, h.f.le h1 h2⟩
theorem pys_mapW : ∀ l : List D, pys l = l.map py
  | [] => by rw [pys]; rfl
  | a :: l => by rw [pys, pys_mapW l]; rfl
theorem Sm.lst {n k : Nat} {ds : List D} (h : ∀ d ∈ ds, Sm n k d) : Sm (3 + ds.length * (n + 2)) (k + 1) (.lst ds) := by
  refine ⟨by rw [puW]; exact puWs_mk fun d hd => (h d hd).p, ?_⟩
  rw [py]
  have z : Fn (.list (pys ds)) (2 + (pys ds).length * (n + 2)) (k + 1) := Fn.lst fun d hd => by
    rw [pys_mapW] at hd
    obtain ⟨x, hx, rfl⟩ := List.mem_map.mp hd
    exact (h x hx).f
  rw [pys_mapW, List.length_map] at z
  rw [pys_mapW]
  exact z.le (by omega) (Nat.le_refl _)
theorem Sm.tup {n k : Nat} {ds : List D} (h : ∀ d ∈ ds, Sm n k d) : Sm (3 + ds.length * (n + 2)) (k + 1) (.tup ds) := by
  refine ⟨by rw [puW]; exact puWs_mk fun d hd => (h d hd).p, ?_⟩
  rw [py]
  have z : Fn (.tuple (pys ds)) (3 + (pys ds).length * (n + 2)) (k + 1) := Fn.tup fun d hd => by
    rw [pys_mapW] at hd
    obtain ⟨x, hx, rfl⟩ := List.mem_map.mp hd
    exact (h x hx).f
  rw [pys_mapW, List.length_map] at z
  rw [pys_mapW]
  exact z
theorem Sm.sq {m n k N : Nat} {b : Bool} {ds : List D} (h : ∀ d ∈ ds, Sm n k d) (l : ds.length ≤ m) (c : 3 + m * (n + 2) ≤ N) : Sm N (k + 1) (Va.sq b ds) := by
  have z := Nat.mul_le_mul_right (n + 2) l
  cases b
  · exact (Sm.tup h).le (by omega) (Nat.le_refl _)
  · exact (Sm.lst h).le (by omega) (Nat.le_refl _)
theorem Sm.non : Sm 46 0 .non := ⟨rfl, by rw [py]; exact Fn.non.le (by decide) (Nat.le_refl _)⟩
theorem Sm.bl (b : Bool) : Sm 46 0 (.bl b) := ⟨rfl, by rw [py]; exact (Fn.bl b).le (by decide) (Nat.le_refl _)⟩
theorem Sm.int {i : Int} (h : i.natAbs < 10 ^ 45) : Sm 46 0 (.int i) := ⟨rfl, by rw [py]; exact Fn.int h⟩
theorem Sm.str {x : Str} (h : (reprText x).length ≤ 46) : Sm 46 0 (.str x) := ⟨rfl, by rw [py]; exact Fn.str h⟩
theorem Sm.dic (a : Addr) : Sm 46 1 (.dic a) := ⟨rfl, by rw [py]; exact Fn.dic.le (by decide) (Nat.le_refl _)⟩
theorem Sm.sgn {i : Int} (h : 0 ≤ i ∧ i < 100) : Sm 46 0 (.int i) := Sm.int (Nat.lt_trans (m := 100) (by omega) (by decide))
theorem sm_sgs {xs : List Int} (h : Sgn xs) : ∀ d ∈ xs.map D.int, Sm 46 0 d := fun d hd => by
  obtain ⟨i, hi, rfl⟩ := List.mem_map.mp hd
  exact Sm.sgn (h i hi)
/-- what stands where a thing should -/
structure OddW (d : D) : Prop where
  s : Sm 200 3 d
  t : ∀ ds, d = .tup ds → ds.length ≤ 2 ∧ ∀ x ∈ ds, ∃ i, x = .int i ∧ Sm 46 0 x
  l : lenD d ≤ 2
def ItP (m : Nat) (e : D) : Prop := Sm 26000 6 e ∧ ∀ ds, e = .tup ds → ds.length ≤ m ∧ ∀ x ∈ ds, Sm 5000 3 x
def RuP (m : Nat) (e : D) : Prop := Sm 450000 9 e ∧ ∀ a b its c, e = .tup [a, b, .tup its, c] → Sm 5000 3 a ∧ Sm 5000 3 b ∧ Sm 5000 3 c ∧ its.length ≤ 3 ∧ ∀ i ∈ its, ItP m i
theorem ItP.le {m n : Nat} {e : D} (h : ItP m e) (l : m ≤ n) : ItP n e := ⟨h.1, fun ds z => ⟨Nat.le_trans (h.2 ds z).1 l, (h.2 ds z).2⟩⟩
theorem RuP.le {m n : Nat} {e : D} (h : RuP m e) (l : m ≤ n) : RuP n e := ⟨h.1, fun a b its c z => by
  obtain ⟨h1, h2, h3, h4, h5⟩ := h.2 a b its c z
  exact ⟨h1, h2, h3, h4, fun i hi => (h5 i hi).le l⟩⟩
theorem OddW.part {d : D} (h : OddW d) : Sm 5000 3 d := h.1.le (by decide) (by decide)
theorem OddW.it {m : Nat} {d : D} (h : OddW d) (l : 2 ≤ m) : ItP m d := ⟨h.1.le (by decide) (by decide), fun ds z => ⟨Nat.le_trans (h.2 ds z).1 l, fun x hx => by
  obtain ⟨i, rfl, hi⟩ := (h.2 ds z).2 x hx
  exact hi.le (by decide) (by decide)⟩⟩
theorem OddW.ru {m : Nat} {d : D} (h : OddW d) : RuP m d := ⟨h.1.le (by decide) (by decide), fun a b its c z => absurd (h.2 _ z).1 (by simp)⟩
theorem OddW.its {m : Nat} {its : List D} (h : OddW (.tup its)) : its.length ≤ 3 ∧ ∀ i ∈ its, ItP m i := by
  obtain ⟨h1, h2⟩ := h.2 its rfl
  refine ⟨by omega, fun i hi => ?_⟩
  obtain ⟨j, rfl, hj⟩ := h2 i hi
  exact ⟨hj.le (by decide) (by decide), fun ds z => nomatch z⟩
theorem oddW_no {d : D} (h : Sm 200 3 d) (n : ∀ ds, d ≠ .tup ds) (l : lenD d ≤ 2 := by first | exact Nat.zero_le _ | decide) : OddW d := ⟨h, fun ds z => absurd z (n ds), l⟩
theorem itP_sq {m : Nat} {b : Bool} {ds : List D} (l : ds.length ≤ m) (l5 : m ≤ 5) (h : ∀ x ∈ ds, Sm 5000 3 x) : ItP m (sq b ds) := by
  refine ⟨(Sm.sq (m := 5) (N := 26000) h (by omega) (by decide)).le (by decide) (by decide), fun es z => ?_⟩
  cases b
  · cases z
    exact ⟨l, h⟩
  · cases z
theorem itP_of {i : Itm} (h : ItOk i) : ItP 3 (Itm.v i) := by
  have part : ∀ {d : D}, Sm 46 0 d → Sm 5000 3 d := fun h => h.le (by decide) (by decide)
  cases i with
  | put xs =>
    refine itP_sq (b := false) (ds := [.str "put", .tup (xs.map D.int)]) (by simp) (by decide) fun x hx => ?_
    rcases List.mem_cons.mp hx with rfl | hx
    · exact part (Sm.str (by decide +kernel))
    · rw [List.mem_singleton.mp hx]
      exact (Sm.sq (m := 100) (b := false) (N := 5000) (sm_sgs h.1) (by rw [List.length_map]; have := h.2; omega) (by decide)).le (by decide) (by decide)
  | plus k =>
    refine itP_sq (b := false) (ds := [.str "plus", .int k]) (by simp) (by decide) fun x hx => ?_
    rcases List.mem_cons.mp hx with rfl | hx
    · exact part (Sm.str (by decide +kernel))
    · rw [List.mem_singleton.mp hx]
      exact part (Sm.sgn h)
  | own j k =>
    refine itP_sq (b := false) (ds := [.str "own", .int j, .int k]) (by simp) (by decide) fun x hx => ?_
    rcases List.mem_cons.mp hx with rfl | hx
    · exact part (Sm.str (by decide +kernel))
    rcases List.mem_cons.mp hx with rfl | hx
    · exact part (Sm.sgn h.1)
    · rw [List.mem_singleton.mp hx]
      exact part (Sm.sgn h.2)
theorem sm_its {m : Nat} {its : List D} (l : its.length ≤ 3) (h : ∀ i ∈ its, ItP m i) : Sm 100000 7 (.tup its) := (Sm.sq (m := 3) (b := false) (N := 100000) (fun i hi => (h i hi).1) l (by decide)).le (by decide) (by decide)
theorem sm_ru {b : Bool} {ds : List D} (l : ds.length ≤ 4) (h : ∀ x ∈ ds, Sm 100000 7 x) : Sm 450000 9 (sq b ds) := (Sm.sq (m := 4) (N := 450000) h l (by decide)).le (by decide) (by decide)
theorem ruP_mk {m : Nat} {a b c : D} {its : List D} (h1 : Sm 5000 3 a) (h2 : Sm 5000 3 b) (h3 : Sm 5000 3 c) (l : its.length ≤ 3) (h : ∀ i ∈ its, ItP m i) : RuP m (.tup [a, b, .tup its, c]) := by
  refine ⟨sm_ru (b := false) (by simp) fun x hx => ?_, fun a' b' its' c' z => ?_⟩
  · rcases List.mem_cons.mp hx with rfl | hx
    · exact h1.le (by decide) (by decide)
    rcases List.mem_cons.mp hx with rfl | hx
    · exact h2.le (by decide) (by decide)
    rcases List.mem_cons.mp hx with rfl | hx
    · exact sm_its l h
    · rw [List.mem_singleton.mp hx]
      exact h3.le (by decide) (by decide)
  · injection z with z
    injection z with z1 z
    injection z with z2 z
    injection z with z3 z
    injection z with z4 z
    injection z3 with z3
    subst z1 z2 z3 z4
    exact ⟨h1, h2, h3, l, h⟩
theorem ruP_of {u : Ru} (h : RuOk u) (l : u.items.length ≤ 3) : RuP 3 (Ru.v u) := by
  have part : ∀ {d : D}, Sm 46 0 d → Sm 5000 3 d := fun h => h.le (by decide) (by decide)
  obtain ⟨s, wd, its, nx⟩ := u
  refine ruP_mk (its := its.map Itm.v) (part (Sm.sgn h.st)) (part ?_) (part ?_) (by rw [List.length_map]; exact l) fun i hi => ?_
  · have hw := h.wd
    cases wd with
    | sign x => exact Sm.sgn hw
    | other => exact Sm.str (by decide +kernel)
    | fin => exact Sm.str (by decide +kernel)
  · cases nx with
    | none => exact Sm.non
    | some n => exact Sm.sgn (by
        have z := h.nx
        cases wd with
        | fin => exact z.elim
        | other => exact z
        | sign x => exact z)
  · obtain ⟨x, hx, rfl⟩ := List.mem_map.mp hi
    exact itP_of (h.its x hx)
theorem mem_set {α : Type} {l : List α} {n : Nat} {a x : α} (h : x ∈ l.set n a) : x = a ∨ x ∈ l := (List.mem_or_eq_of_mem_set h).symm
/-- a rule with one part changed -/
theorem ruP_set {m n : Nat} {a b c o : D} {its : List D} (h : RuP m (.tup [a, b, .tup its, c])) (ho : OddW o) : RuP m (.tup ([a, b, .tup its, c].set n o)) := by
  obtain ⟨h1, h2, h3, h4, h5⟩ := h.2 _ _ _ _ rfl
  rcases n with _ | _ | _ | _ | n
  · exact ruP_mk ho.part h2 h3 h4 h5
  · exact ruP_mk h1 ho.part h3 h4 h5
  · refine ⟨sm_ru (b := false) (by simp) fun x hx => ?_, fun a' b' its' c' z => ?_⟩
    · rcases List.mem_cons.mp hx with rfl | hx
      · exact h1.le (by decide) (by decide)
      rcases List.mem_cons.mp hx with rfl | hx
      · exact h2.le (by decide) (by decide)
      rcases List.mem_cons.mp hx with rfl | hx
      · exact ho.1.le (by decide) (by decide)
      · rw [List.mem_singleton.mp hx]
        exact h3.le (by decide) (by decide)
    · injection z with z
      injection z with z1 z
      injection z with z2 z
      injection z with z3 z
      injection z with z4 z
      subst z1 z2 z3 z4
      obtain ⟨k1, k2⟩ := ho.its (m := m)
      exact ⟨h1, h2, h3, k1, k2⟩
  · exact ruP_mk h1 h2 ho.part h4 h5
  · exact h
def sdOddW : SpD := fun ws S Q _ => ∃ t, ws = [.own t] ∧ TapeIn S t ∧ sdT t S (fun d : D => d) OddW Q
def sdBadItem : SpD := fun ws S Q _ => ∃ t m ds, ws = [.own t, .dat (.tup ds)] ∧ 2 ≤ m ∧ m ≤ 4 ∧ 0 < ds.length ∧ ItP m (.tup ds) ∧ TapeIn S t ∧ sdT t S (fun d : D => d) (ItP (m + 1)) Q
def sdBadRule : SpD := fun ws S Q _ => ∃ t m a b its c, ws = [.own t, .dat (.tup [a, b, .tup its, c])] ∧ 2 ≤ m ∧ m ≤ 4 ∧ RuP m (.tup [a, b, .tup its, c]) ∧ TapeIn S t ∧ sdT t S (fun d : D => d) (RuP (m + 1)) Q
end Va
namespace Va
open PySem PySem.Spec PyProof.Rows L2 Fd
theorem rowD_allW {b : Bool} {es : List D} : rowD (sq b es) = es.all sgD := by
  have z : ∀ es : List D, (pys es).all dSign = es.all sgD := by
    intro es
    induction es with
    | nil => rfl
    | cons a es ih =>
      rw [pys, List.all_cons, List.all_cons, ih]
      rfl
  cases b
  · show dRow (py (.tup es)) = _
    rw [py]
    show (true && (pys es).all dSign) = _
    rw [Bool.true_and, z]
  · show dRow (py (.lst es)) = _
    rw [py]
    show (true && (pys es).all dSign) = _
    rw [Bool.true_and, z]
theorem sqCase {A : Prop} (b : Bool) (h1 : b = true → A) (h2 : b = false → A) : A := by
  cases b
  · exact h2 rfl
  · exact h1 rfl
theorem lt100 (n : Nat) : decide ((n : Int) < 100) = decide (n ≤ 99) := by
  by_cases h : n ≤ 99
  · rw [decide_eq_true h, decide_eq_true (by omega)]
  · rw [decide_eq_false h, decide_eq_false (by omega)]
end Va
namespace Va
theorem byTest {A : Prop} (p : Prop) [Decidable p] (h1 : p → A) (h2 : ¬ p → A) : A := if h : p then h1 h else h2 h
end Va

set_option maxRecDepth 100000
set_option maxHeartbeats 2000000
namespace Va
open PySem PySem.Spec PyProof.Rows L2 Fd
theorem iteB {c : Bool} {A B : Prop} (h : A) (k : B) : if c = true then A else B := by
  cases c
  · exact k
  · exact h
theorem badAt_lt : ∀ {ds : List D} {i : Nat}, badAt ds = some i → i < ds.length
  | [], i, h => by cases h
  | d :: ds, i, h => by
    rw [badAt] at h
    by_cases c : ruD d = true
    · rw [if_pos c] at h
      cases e : badAt ds with
      | none => rw [e] at h; cases h
      | some j =>
        rw [e] at h
        have h : some (j + 1) = some i := h
        cases h
        have := badAt_lt e
        simp
        omega
    · rw [if_neg c] at h
      cases h
      simp
theorem due_ok {s r : D} (hs : Sm 5000 3 s) (hl : lenD r ≤ 8) : Sm 20000 4 (.tup (dueD s r)) ∧ puWs (dueD s r) = true ∧ PyData.depthAll (pys (dueD s r)) ≤ 40 := by
  have two : ∀ a b : D, Sm 5000 3 a → Sm 5000 3 b → Sm 20000 4 (.tup [a, b]) := fun a b ha hb => (Sm.sq (m := 2) (b := false) (N := 20000) (fun x hx => by
    rcases List.mem_cons.mp hx with rfl | hx
    · exact ha
    · rw [List.mem_singleton.mp hx]
      exact hb) (by simp) (by decide)).le (by decide) (by decide)
  have sm : ∀ {d : D}, Sm 46 0 d → Sm 5000 3 d := fun h => h.le (by decide) (by decide)
  have key : Sm 20000 4 (.tup (dueD s r)) := by
    unfold dueD
    split
    · cases e : itemsD r with
      | none => exact two _ _ (sm (Sm.str (by decide +kernel))) (sm (Sm.int (by decide)))
      | some ds =>
        show Sm 20000 4 (.tup (match badAt ds with
          | none => [.str "told", .bl true]
          | some i => [.str "rule", .int (i : Nat)]))
        cases e2 : badAt ds with
        | none => exact two _ _ (sm (Sm.str (by decide +kernel))) (sm (Sm.bl true))
        | some i =>
          have li := badAt_lt e2
          have ld : ds.length ≤ 8 := by
            cases r with
            | lst es => cases e; exact hl
            | tup es => cases e; exact hl
            | _ => cases e
          exact two _ _ (sm (Sm.str (by decide +kernel))) (sm (Sm.int (Nat.lt_trans (m := 100) (by omega) (by decide))))
    · exact two _ _ (sm (Sm.str (by decide +kernel))) hs
  refine ⟨key, by have z := key.p; rw [puW] at z; exact z, ?_⟩
  have z := key.f.dep
  rw [py, PyData.depth] at z
  omega
theorem sm_rus {m : Nat} {ds : List D} (h : ∀ d ∈ ds, RuP m d) (l : ds.length ≤ 8) : Sm 4000000 12 (.lst ds) := (Sm.sq (m := 8) (b := true) (N := 4000000) (fun d hd => (h d hd).1) l (by decide)).le (by decide) (by decide)
/-- what may stand for the rules -/
def RuWk (S : Own) (k : Nat) (w : W) : Prop := (∃ ds, w = .own k ∧ S[k]? = some (some (.lst ds)) ∧ ds.length ≤ 8 ∧ ∀ d ∈ ds, RuP 5 d) ∨ ∃ d, w = .dat d ∧ OddW d
end Va

set_option maxRecDepth 100000
set_option maxHeartbeats 2000000
namespace Va
open PySem PySem.Spec PyProof.Rows L2 Fd

/-! ### what is behind a pin -/
def core : Ob → Ob
  | .pin _ ob => core ob
  | ob => ob
/-- such a thing with another content -/
def re : Ob → Ob → Ob
  | .pin a ob, o => .pin a (re ob o)
  | _, o => o
theorem core_ok {P : FP} {H : Hp} {a : Addr} : ∀ {ob : Ob}, ObR P H a ob → ObR P H a (core ob)
  | .lst _, h => h
  | .ins _ _ _, h => h
  | .dck _ _, h => h
  | .dct _ _, h => h
  | .pin _ ob, h => core_ok (ob := ob) h.2
theorem re_ok {P P' : FP} {H H' : Hp} {a : Addr} {o : Ob} (q : ObR P' H' a o) : ∀ {ob : Ob}, ObR P H a ob → ObR P' H' a (re ob o)
  | .lst _, _ => q
  | .ins _ _ _, _ => q
  | .dck _ _, _ => q
  | .dct _ _, _ => q
  | .pin _ ob, h => ⟨h.1, re_ok q (ob := ob) h.2⟩
section
variable {B : Base}
theorem Rel.at' {O : List Addr} {σ : L2.St} {H : Hp} {δ : DS} {k : Nat} {v : V} {ob : Ob} (R : Rel B O σ H δ) (r : WR O δ.own H v (.own k)) (e : δ.own[k]? = some (some ob)) : ∃ a, v = .ref a ∧ O[k]? = some a ∧ ObR (Fz O δ.own H) H a ob := by
  obtain ⟨a, h1, rfl⟩ := r
  obtain ⟨b, h2, h3⟩ := R.st.ob k _ e
  rw [h1] at h2
  cases h2
  exact ⟨a, rfl, h1, h3⟩
theorem Rel.lstP {O : List Addr} {σ : L2.St} {H : Hp} {δ : DS} {k : Nat} {v : V} {ob : Ob} {ds : List D} (R : Rel B O σ H δ) (r : WR O δ.own H v (.own k)) (e : δ.own[k]? = some (some ob)) (c : core ob = .lst ds) : ∃ a xs, v = .ref a ∧ O[k]? = some a ∧ H a = some (.lst xs) ∧ DvAll (Fz O δ.own H) xs ds := by
  obtain ⟨a, rfl, h1, h2⟩ := R.at' r e
  have h3 := core_ok h2
  rw [c] at h3
  obtain ⟨xs, h4, h5⟩ := h3
  exact ⟨a, xs, rfl, h1, h4, h5⟩
theorem Rel.setP {O : List Addr} {σ : L2.St} {H : Hp} {δ : DS} {k : Nat} {a : Addr} {ob ob' : Ob} {o : HO} (R : Rel B O σ H δ) (ha : O[k]? = some a) (e : δ.own[k]? = some (some ob)) (q : ObR (Fz O δ.own H) (upd H a o) a ob') :
    Ext O δ.own H O (δ.own.set k (some (re ob ob'))) (upd H a o) ∧ Rel B O σ (upd H a o) ⟨δ.slots, δ.own.set k (some (re ob ob'))⟩ := by
  obtain ⟨b, h2, h3⟩ := R.st.ob k _ e
  rw [ha] at h2
  cases h2
  obtain ⟨h1, h2⟩ := own_set (ob' := re ob ob') (o := o) R.st ha e (re_ok q h3)
  exact ⟨h2, R.to h1 h2⟩
/-- a thing gets a pin: from now on its address is known -/
theorem Rel.pinned {O : List Addr} {σ : L2.St} {H : Hp} {δ : DS} {j : Nat} {a : Addr} {ob : Ob} (R : Rel B O σ H δ) (ha : O[j]? = some a) (e : δ.own[j]? = some (some ob)) :
    Ext O δ.own H O (δ.own.set j (some (.pin a ob))) H ∧ Rel B O σ H ⟨δ.slots, δ.own.set j (some (.pin a ob))⟩ := by
  have hj : j < δ.own.length := (List.getElem?_eq_some_iff.mp e).1
  have lv : ∀ b, Lv O (δ.own.set j (some (.pin a ob))) b → Lv O δ.own b := fun b ⟨i, u, h1, h2⟩ => by
    by_cases c : i = j
    · rw [c] at h1
      exact ⟨j, ob, h1, e⟩
    · rw [List.getElem?_set_ne (Ne.symm c)] at h2
      exact ⟨i, u, h1, h2⟩
  have ex : Ext O δ.own H O (δ.own.set j (some (.pin a ob))) H := ⟨⟨[], by simp⟩, fun b u h => ⟨h.1, fun z => h.2 (lv b z)⟩⟩
  refine ⟨ex, R.to ⟨by rw [List.length_set]; exact R.st.len, R.st.nod, R.st.there, fun i u z => ?_⟩ ex⟩
  by_cases c : i = j
  · subst c
    rw [List.getElem?_set_self hj] at z
    injection z with z
    injection z with z
    subst z
    obtain ⟨b, h1, h2⟩ := R.st.ob _ _ e
    rw [ha] at h1
    cases h1
    exact ⟨a, ha, rfl, h2.keep ex.fz rfl⟩
  · rw [List.getElem?_set_ne (Ne.symm c)] at z
    obtain ⟨b, h1, h2⟩ := R.st.ob i u z
    exact ⟨b, h1, h2.keep ex.fz rfl⟩
end

/-! ### a def, a method whose own things stay -/
section
variable {P : Program} {w : World} {K : PySem.W.Frag} {mg : Str → Option Value} {base : Heap}
theorem leN {O : List Addr} {S : Own} {H : Hp} {Ed : XD} {E : XK} (L : LkE O S H Ed E) : LE ⟨O, S, H⟩ Ed E := fun C d S' O' dd v H' q e st hv hd => L.e C d S' O' dd v H' q e st hv hd
theorem Dx.prN {x : Str} {st : Stmt} {N ps : List Str} {k : Nat} {sd : SpD} (Df : Fd.Dx K mg x st ps) (Sc : FnScope N ps (defScope st)) (len : ∀ ws S Q E, sd ws S Q E → ws.length = ps.length)
    (body : ∀ (f : Addr) (cdv : Value) (A : Around) (outer : List Env) (s : Shared) (B : Base) (ws : List W) (Qd : W → Own → Prop) (Ed : XD) (E : XK), Room k (A.deeper (envOfC x (defScope st) s.heap.objs.size f cdv)) → LE B Ed E → sd ws B.S Qd Ed →
      ∃ td : DP, PSs (cxOf (L2.CX P w) P w K mg base N x (defScope st) f cdv A outer s B.H E) (defBody st) (upS B td) ∧ td { nx := fun δ => Qd (.dat .non) δ.own, rt := fun u δ => Qd u δ.own } ⟨slots0 N ws, B.S⟩) : Fd.Pr P w K mg base (k + 1) x ps (lift sd) := by
  refine Df.pr Sc (fun vs H Q E h => ?_) (fun f cdv A outer s H vs Q E hr h => ?_)
  · obtain ⟨O, S, ws, Qd, Ed, st, r, hs, _⟩ := h
    rw [r.len]
    exact len ws S Qd Ed hs
  · obtain ⟨O, S, ws, Qd, Ed, st, r, hs, L, LEd⟩ := h
    obtain ⟨td, h1, h2⟩ := body f cdv A outer s ⟨O, S, H⟩ ws Qd Ed E hr (leN LEd) hs
    refine ⟨_, h1, O, _, _, rel0 st r, h2, ?_, ?_, fun _ _ _ _ z => z.elim, fun _ _ _ _ z => z.elim⟩
    · exact fun δ' O' σ' H' q e R => L.q _ _ O' _ H' q R.bs R.st .non
    · exact fun u δ' O' σ' v H' q e R wr => L.q u _ O' v H' q R.bs R.st wr
theorem fn_vN {x qual : Str} {st : Stmt} {f : Addr} {fd : FuncData} {N ps : List Str} {k : Nat} {sd : SpD} (F : Fun K x qual st f fd) (Sc : FnScope N ps (defScope st)) (len : ∀ ws S Q E, sd ws S Q E → ws.length = ps.length)
    (body : ∀ (cdv : Value) (A : Around) (outer : List Env) (s : Shared) (B : Base) (ws : List W) (Qd : W → Own → Prop) (Ed : XD) (E : XK), Room k (A.deeper (envOfC qual (defScope st) s.heap.objs.size f cdv)) → LE B Ed E → sd ws B.S Qd Ed →
      ∃ td : DP, PSs (cxOf (L2.CX P w) P w K mg base N qual (defScope st) f cdv A outer s B.H E) (defBody st) (upS B td) ∧ td { nx := fun δ => Qd (.dat .non) δ.own, rt := fun u δ => Qd u δ.own } ⟨slots0 N ws, B.S⟩) : FnOk P w K mg base (L2.CX P w) (k + 1) f fd ps (lift sd) := by
  refine F.okX Sc (fun vs H Q E h => ?_) (fun cdv A outer s H vs Q E hr h => ?_)
  · obtain ⟨O, S, ws, Qd, Ed, st, r, hs, _⟩ := h
    rw [r.len]
    exact len ws S Qd Ed hs
  · obtain ⟨O, S, ws, Qd, Ed, st, r, hs, L, LEd⟩ := h
    obtain ⟨td, h1, h2⟩ := body cdv A outer s ⟨O, S, H⟩ ws Qd Ed E hr (leN LEd) hs
    refine ⟨_, h1, O, _, _, rel0 st r, h2, ?_, ?_, fun _ _ _ _ z => z.elim, fun _ _ _ _ z => z.elim⟩
    · exact fun δ' O' σ' H' q e R => L.q _ _ O' _ H' q R.bs R.st .non
    · exact fun u δ' O' σ' v H' q e R wr => L.q u _ O' v H' q R.bs R.st wr
end

/-! ### pinned things in fields -/
section
variable {X : Cx} {B : Base} {e o : Expr} {es : List Expr} {st : Stmt} {pos p : Pos} {C : Addr} {f : Str} {ta tv to : DE} {t : DA}
/-- o.f where it points to a thing with a pin -/
def dFldP (C : Addr) (f : Str) (ta : DE) : DE := fun δ Q => ta δ fun w δ1 => ∃ ns ds a j ob, Pk δ1.own w (.ins C ns ds) ∧ fldD f ns ds = some (.con (.ref a)) ∧ δ1.own[j]? = some (some (.pin a ob)) ∧ Q (.own j) δ1
theorem v_fldP (hc : Cls X.K C) (hn : NoAttr X.K C f) (h : PE X o (upE B ta)) (hb : attributeBase o f X.env (eval o X.env) = eval o X.env := by rfl) : PE X (.Attribute o f pos) (upE B (dFldP C f ta)) := pe_imp (pe_fld h hb) fun σ H Q ⟨O, δ, Qd, R, h, L⟩ =>
  ⟨O, δ, _, R, h, fun w δ1 O1 v H1 ⟨ns, ds, b, j, ob, pk, ef, ej, q⟩ e1 R1 r1 => by
    obtain ⟨a, dx, xs, rfl, eh, _, hl, l⟩ := pk_vw R1.st r1 pk
    obtain ⟨x, el, hx⟩ := fld_ok l ef
    cases hx
    obtain ⟨c, h1, h2⟩ := R1.st.ob j _ ej
    obtain ⟨rfl, _⟩ := h2
    exact ⟨a, C, dx, _, _, rfl, eh, hc, hn, el, L _ δ1 O1 _ H1 q e1 R1 ⟨_, h1, rfl⟩⟩⟩
/-- o.f = a thing that this body owns: it gets a pin -/
def dgFldP (C : Addr) (f : Str) (ta : DE) : DG := fun w δ Q => ta δ fun o δ1 => ∃ k j ob obk ns ds, o = .own k ∧ w = .own j ∧ j ≠ k ∧ δ1.own[j]? = some (some ob) ∧ δ1.own[k]? = some (some obk) ∧ core obk = .ins C ns ds ∧ ns.length < 1000 ∧
  ∀ a, Q ⟨δ1.slots, (δ1.own.set j (some (.pin a ob))).set k (some (re obk (.ins C (put2 f (.con (.ref a)) ns ds).1 (put2 f (.con (.ref a)) ns ds).2)))⟩
/-- .. to a field that is data, the object pinned or not -/
def dgFldR (C : Addr) (f : Str) (ta : DE) : DG := fun w δ Q => ta δ fun o δ1 => ∃ k, o = .own k ∧ toD w δ1 fun d δ2 => ∃ ob ns ds, δ2.own[k]? = some (some ob) ∧ core ob = .ins C ns ds ∧ ns.length < 1000 ∧ Q ⟨δ2.slots, δ2.own.set k (some (re ob (.ins C (put2 f d ns ds).1 (put2 f d ns ds).2)))⟩
theorem Rel.fldP {O : List Addr} {σ : L2.St} {H : Hp} {δ : DS} {k : Nat} {v x : V} {d : D} {ob : Ob} {ns : List Str} {ds : List D} (R : Rel B O σ H δ) (r : WR O δ.own H x (.own k)) (e : δ.own[k]? = some (some ob)) (c : core ob = .ins C ns ds) (hv : Dv (Fz O δ.own H) v d) :
    ∃ a dx xs, x = .ref a ∧ H a = some (.ins C dx (ns.zip xs)) ∧ ns.length = xs.length ∧
    Ext O δ.own H O (δ.own.set k (some (re ob (.ins C (put2 f d ns ds).1 (put2 f d ns ds).2)))) (upd H a (.ins C dx (putF f v (ns.zip xs)))) ∧ Rel B O σ (upd H a (.ins C dx (putF f v (ns.zip xs)))) ⟨δ.slots, δ.own.set k (some (re ob (.ins C (put2 f d ns ds).1 (put2 f d ns ds).2)))⟩ := by
  obtain ⟨a, rfl, h1, h2⟩ := R.at' r e
  have h3 := core_ok h2
  rw [c] at h3
  obtain ⟨dx, xs, h4, h5, hl, l⟩ := h3
  have hl2 : ns.length = ds.length := hl.trans l.len
  obtain ⟨k1, k2⟩ := R.setP (ob' := .ins C (put2 f d ns ds).1 (put2 f d ns ds).2) (o := .ins C dx (putF f v (ns.zip xs))) h1 e ⟨dx, (put2 f v ns xs).2, by rw [upd_same, put2_zip f v hl, put2_names f v d hl hl2], h5, by rw [put2_names f d v hl2 hl, put2_len f v hl], put2_dv hv f hl l⟩
  exact ⟨a, dx, xs, rfl, h4, hl, k1, k2⟩
theorem up_gfldR (hc : Cls X.K C) (hn : NoAttr X.K C f) (v : V) (σ : L2.St) (H : Hp) (Q : L2.St → Hp → Prop) : upG B (dgFldR C f ta) v σ H Q → gFld X.K f (upE B ta) v σ H Q := fun ⟨O, δ, w, Qd, R, r, q, L⟩ => by
  refine ⟨O, δ, _, R, q, fun ow δ1 O1 o H1 ⟨k, ew, q1⟩ e1 R1 r1 => ?_⟩
  subst ew
  obtain ⟨d, δ2, ⟨ob, ns, ds, es, c, hfew, q2⟩, R2, e2, hd⟩ := toD_ok R1 (r.ext e1) q1
  obtain ⟨a, dx, xs, rfl, eh, hl, k1, k2⟩ := R2.fldP (f := f) (r1.ext e2) es c hd
  exact ⟨a, C, dx, _, rfl, eh, hc, hn, by rw [List.length_zip, ← hl, Nat.min_self]; exact hfew, L _ _ _ _ q2 ((e1.trans e2).trans k1) k2⟩
theorem up_gfldP (hc : Cls X.K C) (hn : NoAttr X.K C f) (v : V) (σ : L2.St) (H : Hp) (Q : L2.St → Hp → Prop) : upG B (dgFldP C f ta) v σ H Q → gFld X.K f (upE B ta) v σ H Q := fun ⟨O, δ, w, Qd, R, r, q, L⟩ => by
  refine ⟨O, δ, _, R, q, fun ow δ1 O1 o H1 ⟨k, j, ob, obk, ns, ds, ew, ew2, nj, ej, ek, c, hfew, q2⟩ e1 R1 r1 => ?_⟩
  subst ew ew2
  obtain ⟨b, hb, rfl⟩ := r.ext e1
  obtain ⟨k1, R2⟩ := R1.pinned hb ej
  have ek2 : (δ1.own.set j (some (.pin b ob)))[k]? = some (some obk) := by rw [List.getElem?_set_ne nj]; exact ek
  obtain ⟨a, dx, xs, rfl, eh, hl, k2, k3⟩ := R2.fldP (f := f) (v := .ref b) (d := .con (.ref b)) (r1.ext k1) ek2 c (.con _)
  exact ⟨a, C, dx, _, rfl, eh, hc, hn, by rw [List.length_zip, ← hl, Nat.min_self]; exact hfew, L _ _ _ _ (q2 b) ((e1.trans k1).trans k2) k3⟩
theorem v_sfldR (hc : Cls X.K C) (hn : NoAttr X.K C f) (h : PS X st (sFld X.K (upE B ta) (upE B tv) f)) : PS X st (upS B (dAsg tv (dgFldR C f ta))) := ps_imp h fun E σ H ⟨O, δ, Dd, R, h, L⟩ =>
  ⟨O, δ, _, R, h, fun w δ1 O1 v H1 q e R1 r1 => by
    have z : upG B (dgFldR C f ta) v σ H1 E.nx := ⟨O1, δ1, w, _, R1, r1, q, fun δ2 O2 σ2 H2 q2 e2 R2 => L.nx δ2 O2 σ2 H2 q2 (e.trans e2) R2⟩
    exact up_gfldR hc hn v σ H1 E.nx z⟩
theorem v_sfldP (hc : Cls X.K C) (hn : NoAttr X.K C f) (h : PS X st (sFld X.K (upE B ta) (upE B tv) f)) : PS X st (upS B (dAsg tv (dgFldP C f ta))) := ps_imp h fun E σ H ⟨O, δ, Dd, R, h, L⟩ =>
  ⟨O, δ, _, R, h, fun w δ1 O1 v H1 q e R1 r1 => by
    have z : upG B (dgFldP C f ta) v σ H1 E.nx := ⟨O1, δ1, w, _, R1, r1, q, fun δ2 O2 σ2 H2 q2 e2 R2 => L.nx δ2 O2 σ2 H2 q2 (e.trans e2) R2⟩
    exact up_gfldP hc hn v σ H1 E.nx z⟩
/-- .append, .extend of a list with a pin or without -/
def dAppR (to : DE) (t : DA) : DE := fun δ Q => to δ fun w δ1 => ∃ k ob ds0, w = .own k ∧ δ1.own[k]? = some (some ob) ∧ core ob = .lst ds0 ∧ t δ1 fun ws δ2 => ∃ u, ws = [u] ∧ toD u δ2 fun d δ3 => ∃ ob ds, δ3.own[k]? = some (some ob) ∧ core ob = .lst ds ∧ ds.length < sizeLine ∧ Q (.dat .non) ⟨δ3.slots, δ3.own.set k (some (re ob (.lst (ds ++ [d]))))⟩
theorem up_appR (σ : L2.St) (H : Hp) (Q : VK) : upE B (dAppR to t) σ H Q → tBM X.K "list" rAppend (upE B to) (upA B t) σ H Q := fun ⟨O, δ, Qd, R, h, L⟩ => by
  refine ⟨O, δ, _, R, h, fun w δ1 O1 v H1 ⟨k, ob, ds0, ew, es, c, q⟩ e1 R1 r1 => ?_⟩
  subst ew
  obtain ⟨a, xs, rfl, ha, hh, _⟩ := R1.lstP r1 es c
  refine ⟨.inl ⟨rfl, xs, SqL.of hh⟩, O1, δ1, _, R1, q, fun ws δ2 O2 vs H2 ⟨u, ew, q2⟩ e2 R2 r2 => ?_⟩
  subst ew
  obtain ⟨x, rfl, rx⟩ := r2.one
  obtain ⟨d, δ3, ⟨ob3, ds, es3, c3, hl, q3⟩, R3, e3, hd⟩ := toD_ok R2 rx q2
  have r3 := r1.ext (e2.trans e3)
  obtain ⟨a', ys, ea, ha3, hh3, l3⟩ := R3.lstP r3 es3 c3
  cases ea
  refine ⟨a, ys, x, rfl, rfl, hh3, by rw [l3.len]; exact hl, ?_⟩
  obtain ⟨h1, h2⟩ := R3.setP (ob' := .lst (ds ++ [d])) (o := .lst (ys ++ [x])) ha3 es3 ⟨_, upd_same, l3.app (.cons hd .nil)⟩
  exact L _ _ _ _ _ q3 (((e1.trans e2).trans e3).trans h1) h2 .non
def dExtR (to : DE) (t : DA) : DE := fun δ Q => to δ fun w δ1 => ∃ k ob ds0, w = .own k ∧ δ1.own[k]? = some (some ob) ∧ core ob = .lst ds0 ∧ t δ1 fun ws δ2 => ∃ u es ob ds, ws = [u] ∧ Pk δ2.own u (.lst es) ∧ δ2.own[k]? = some (some ob) ∧ core ob = .lst ds ∧ ds.length + es.length ≤ sizeLine ∧ Q (.dat .non) ⟨δ2.slots, δ2.own.set k (some (re ob (.lst (ds ++ es))))⟩
theorem up_extR (σ : L2.St) (H : Hp) (Q : VK) : upE B (dExtR to t) σ H Q → tBM X.K "list" rExtend (upE B to) (upA B t) σ H Q := fun ⟨O, δ, Qd, R, h, L⟩ => by
  refine ⟨O, δ, _, R, h, fun w δ1 O1 v H1 ⟨k, ob, ds0, ew, es, c, q⟩ e1 R1 r1 => ?_⟩
  subst ew
  obtain ⟨a, xs, rfl, ha, hh, _⟩ := R1.lstP r1 es c
  refine ⟨.inl ⟨rfl, xs, SqL.of hh⟩, O1, δ1, _, R1, q, fun ws δ2 O2 vs H2 ⟨u, es2, ob2, ds, ew, p2, es3, c3, hl, q3⟩ e2 R2 r2 => ?_⟩
  subst ew
  obtain ⟨x, rfl, rx⟩ := r2.one
  obtain ⟨b, zs, rfl, eb, lb⟩ := pk_vw R2.st rx p2
  obtain ⟨a', ys, ea, ha3, hh3, l3⟩ := R2.lstP (r1.ext e2) es3 c3
  cases ea
  refine ⟨a, b, ys, zs, rfl, rfl, hh3, eb, by rw [l3.len, lb.len]; exact hl, ?_⟩
  obtain ⟨h1, h2⟩ := R2.setP (ob' := .lst (ds ++ es2)) (o := .lst (ys ++ zs)) ha3 es3 ⟨_, upd_same, l3.app lb⟩
  exact L _ _ _ _ _ q3 ((e1.trans e2).trans h1) h2 .non
theorem v_appR (h : PE X e (tBM X.K "list" rAppend (upE B to) (upA B t))) : PE X e (upE B (dAppR to t)) := pe_imp h up_appR
theorem v_extR (h : PE X e (tBM X.K "list" rExtend (upE B to) (upA B t))) : PE X e (upE B (dExtR to t)) := pe_imp h up_extR
end
end Va

set_option maxRecDepth 100000
set_option maxHeartbeats 2000000
namespace Va
open PySem PySem.Spec PyProof.Rows L2 Fd

/-! ### methods, properties of own classes -/
/-- a method of the class at C, with its promise -/
structure MetF (P : Program) (w : World) (K : PySem.W.Frag) (mg : Str → Option Value) (base : Heap) (k : Nat) (C : Addr) (m : Str) (ps : List Str) (sd : SpD) : Prop where
  ex : ∃ (f : Addr) (fd : FuncData), Meth K C m f ∧ Binds K fd ps [] ∧ FnOk P w K mg base (L2.CX P w) k f fd ps (lift sd)
/-- a property of it -/
structure PrpF (P : Program) (w : World) (K : PySem.W.Frag) (mg : Str → Option Value) (base : Heap) (k : Nat) (C : Addr) (m : Str) (ps : List Str) (sd : SpD) : Prop where
  ex : ∃ (p f : Addr) (fd : FuncData), PropOf K C m p f ∧ Binds K fd ps [] ∧ FnOk P w K mg base (L2.CX P w) k f fd ps (lift sd)
theorem lookup_no {f : Str} : ∀ {ns : List Str} {xs : List V}, f ∉ ns → (ns.zip xs).lookup f = none
  | [], _, _ => rfl
  | _ :: _, [], _ => rfl
  | n :: ns, x :: xs, h => by
    have e : (f == n) = false := beq_eq_false_iff_ne.mpr fun z => h (by rw [z]; exact List.mem_cons_self)
    rw [List.zip_cons_cons, List.lookup_cons, e]
    exact lookup_no fun z => h (List.mem_cons_of_mem _ z)
section
variable {X : Cx} {B : Base} {e o : Expr} {es : List Expr} {st : Stmt} {pos p apos : Pos} {C : Addr} {m f : Str} {ta to : DE} {t : DA} {k : Nat} {ps : List Str} {sd : SpD} {E : XK} {Ed : XD} {W : WX} {Wd : WD}
def dMeth (C : Addr) (m : Str) (sd : SpD) (Ed : XD) (ta : DE) (t : DA) : DE := fun δ Q => ta δ fun w δ1 => ∃ ns ds, Pk δ1.own w (.ins C ns ds) ∧ m ∉ ns ∧ t δ1 fun ws δ2 => sd (w :: ws) δ2.own (fun u S' => Q u ⟨δ2.slots, S'⟩) Ed
theorem v_meth (le : LE B Ed E) (h : PE X e (tMeth C m (lift sd) [] E (upE B ta) (upA B t))) : PE X e (upE B (dMeth C m sd Ed ta t)) := pe_imp h fun σ H Q ⟨O, δ, Qd, R, h, L⟩ =>
  ⟨O, δ, _, R, h, fun w δ1 O1 v H1 ⟨ns, ds, pk, nm, q⟩ e1 R1 r1 => by
    obtain ⟨a, dx, xs, rfl, eh, _, hl, l⟩ := pk_vw R1.st r1 pk
    refine ⟨a, dx, _, rfl, eh, lookup_no nm, O1, δ1, _, R1, q, fun ws δ2 O2 vs H2 q2 e2 R2 r2 => ?_⟩
    show lift sd (.ref a :: (vs ++ [])) H2 Q E
    rw [List.append_nil]
    exact ⟨O2, δ2.own, w :: ws, _, Ed, R2.st, .cons (r1.ext e2) r2, q2, ⟨fun u S' O' x H' q' e' st' wr => L u _ O' x H' q' ((e1.trans e2).trans e') (R2.to st' e') wr⟩,
      ⟨fun C d S' O' dd v H' q' e' st' hv hd => le C d S' O' dd v H' q' (R2.bs.trans e') st' hv hd⟩⟩⟩
/-- .. in the body of a try -/
def dMethT (C : Addr) (m : Str) (sd : SpD) (Wd : WD) (ta : DE) (t : DA) : DE := fun δ Q => ta δ fun w δ1 => ∃ ns ds, Pk δ1.own w (.ins C ns ds) ∧ m ∉ ns ∧ t δ1 fun ws δ2 => sd (w :: ws) δ2.own (fun u S' => Q u ⟨δ2.slots, S'⟩) (fun C d S' => Wd C d ⟨δ2.slots, S'⟩)
theorem pe_methM {ta : TE} {t : TA} {pl : Sem Bool} (c : MetF X.prog X.w X.K X.mg X.base k C m ps sd) (hC : Cls X.K C) (hr : Room k X.A) (hx : Passes (L2.CX X.prog X.w) X E) (he : PE X o ta) (ha : PA X (e :: es) t)
    (hst : starEach (e :: es) X.env = (false, eval e X.env) :: starEach es X.env := by rfl) (hpl : (backTo pos (starEach es X.env)).any (·.1) = false := by rfl)
    (ht : eval (.Call (.Attribute o m apos) (e :: es) [] pos) X.env = (do
      let ov ← eval o X.env
      standAt apos.atName
      let (f, first) ← holding [ov] (getMethod ov m pl)
      callWith pos f first (backTo pos (starEach (e :: es) X.env)) (backToKw pos (keywordEach [] X.env))) := by rfl) :
    PE X (.Call (.Attribute o m apos) (e :: es) [] pos) (tMeth C m (lift sd) [] E ta t) := by
  obtain ⟨g, fd, hm, hb, F⟩ := c.ex
  exact pe_meth (pl := pl) he hC hm F hr hb .nil hx ha hst hpl ht
theorem pe_methM0 {ta : TE} {pl : Sem Bool} (c : MetF X.prog X.w X.K X.mg X.base k C m ps sd) (hC : Cls X.K C) (hr : Room k X.A) (hx : Passes (L2.CX X.prog X.w) X E) (he : PE X o ta)
    (ht : eval (.Call (.Attribute o m apos) [] [] pos) X.env = (do
      let ov ← eval o X.env
      standAt apos.atName
      let (f, first) ← holding [ov] (getMethod ov m pl)
      callWith pos f first (backTo pos (starEach [] X.env)) (backToKw pos (keywordEach [] X.env))) := by rfl) :
    PE X (.Call (.Attribute o m apos) [] [] pos) (tMeth C m (lift sd) [] E ta tNil) := by
  obtain ⟨g, fd, hm, hb, F⟩ := c.ex
  exact pe_meth0 (pl := pl) he hC hm F hr hb .nil hx ht
/-- o.m, a property -/
def dProp (C : Addr) (sd : SpD) (Ed : XD) (ta : DE) : DE := fun δ Q => ta δ fun w δ1 => ∃ ns ds, Pk δ1.own w (.ins C ns ds) ∧ sd [w] δ1.own (fun u S' => Q u ⟨δ1.slots, S'⟩) Ed
theorem v_prop (le : LE B Ed E) (h : PE X e (tProp C (lift sd) [] E (upE B ta))) : PE X e (upE B (dProp C sd Ed ta)) := pe_imp h fun σ H Q ⟨O, δ, Qd, R, h, L⟩ =>
  ⟨O, δ, _, R, h, fun w δ1 O1 v H1 ⟨ns, ds, pk, q⟩ e1 R1 r1 => by
    have r1' := r1
    obtain ⟨a, dx, xs, rfl, eh, _, hl, l⟩ := pk_vw R1.st r1 pk
    exact ⟨a, dx, _, rfl, eh, O1, δ1.own, [w], _, Ed, R1.st, .cons r1' .nil, q, ⟨fun u S' O' x H' q' e' st' wr => L u _ O' x H' q' (e1.trans e') (R1.to st' e') wr⟩,
      ⟨fun C d S' O' dd v H' q' e' st' hv hd => le C d S' O' dd v H' q' (R1.bs.trans e') st' hv hd⟩⟩⟩
theorem pe_propM {ta : TE} (c : PrpF X.prog X.w X.K X.mg X.base k C f ps sd) (hC : Cls X.K C) (hr : Room (k + 1) X.A) (hx : Passes (L2.CX X.prog X.w) X.nox E) (he : PE X o ta)
    (hab : attributeBase o f X.env (eval o X.env) = eval o X.env := by rfl) : PE X (.Attribute o f pos) (tProp C (lift sd) [] E ta) := by
  obtain ⟨q, g, fd, hp, hb, F⟩ := c.ex
  exact pe_prop he hC hp F hr hb .nil hx hab

/-! ### .pop() -/
theorem DvAll.dropLast {P : FP} : ∀ {xs : List V} {ds : List D}, DvAll P xs ds → DvAll P xs.dropLast ds.dropLast
  | _, _, .nil => .nil
  | [_], [_], .cons _ .nil => .nil
  | _ :: _ :: _, _ :: _ :: _, .cons a (.cons b l) => .cons a (DvAll.dropLast (.cons b l))
def dPopR (to : DE) : DE := fun δ Q => to δ fun w δ1 => ∃ k ob ds d, w = .own k ∧ δ1.own[k]? = some (some ob) ∧ core ob = .lst ds ∧ ds[ds.length - 1]? = some d ∧ Q (.dat d) ⟨δ1.slots, δ1.own.set k (some (re ob (.lst ds.dropLast)))⟩
theorem v_popR (h : PE X e (tBM0 X.K "list" rPop (upE B to))) : PE X e (upE B (dPopR to)) := pe_imp h fun σ H Q ⟨O, δ, Qd, R, h, L⟩ => by
  refine ⟨O, δ, _, R, h, fun w δ1 O1 v H1 ⟨k, ob, ds, d, ew, es, c, ed, q⟩ e1 R1 r1 => ?_⟩
  subst ew
  obtain ⟨a, xs, rfl, ha, hh, l⟩ := R1.lstP r1 es c
  obtain ⟨y, ey, hy⟩ := l.get ed
  refine ⟨.inl ⟨rfl, xs, SqL.of hh⟩, a, xs, y, rfl, rfl, hh, by rw [l.len]; exact ey, ?_⟩
  obtain ⟨h1, h2⟩ := R1.setP (ob' := .lst ds.dropLast) (o := .lst xs.dropLast) ha es ⟨_, upd_same, l.dropLast⟩
  exact L _ _ _ _ _ q (e1.trans h1) h2 (hy.k h1.fz)
end
end Va

set_option maxRecDepth 100000
set_option maxHeartbeats 2000000
namespace Va
open PySem PySem.Spec PyProof.Rows L2 Fd

/-! ### dicts whose keys are tuples -/
def rSetdT : V → List V → Hp → VK → Prop := fun x vs H Q => ∃ (a : Addr) (kvs : List (List Key × V)) (k : List Key) (b : Addr) (y : V), x = .ref a ∧ vs = [.ref b, y] ∧ H a = some (.dT kvs) ∧ H b = some (.tup (k.map kV)) ∧ kvs.length < sizeLine ∧
  (∀ u, valV kvs k = some u → Q u H) ∧ (valV kvs k = none → Q y (upd H a (.dT (putK kvs k y))))
theorem mt_setdT {X : Cx} (hu : X.A.units + 1 < cLine) : MtR X "dict.setdefault" rSetdT := by
  intro pins s σ H x vs v us Q I rx rv h
  obtain ⟨a, kvs, k, b, y, rfl, rfl, e, eb, l, w1, w2⟩ := h
  obtain rfl : v = Value.ref a := rx
  cases rv with
  | cons r1 rv =>
    cases rv with
    | cons r2 rv =>
      cases rv
      cases (show _ = Value.ref b from r1)
      obtain ⟨z, hd, xs, rel, dd⟩ := dt_of I.hok e
      have hz : xs.length ≤ sizeLine := by rw [← Paired.length rel]; exact z
      have hl : (putK kvs k y).length ≤ sizeLine := by have := length_putK kvs k y; omega
      have rv := rel.val k
      refine call_setdefault_heap (tupleKind_room_in1 hu) (key_of I.hok eb) hd dd (fun p hp => ?_) (fun hn h' dd' hs => ?_) (hsz := hz)
      · rw [hp] at rv
        cases c : valV kvs k with
        | none =>
          rw [c] at rv
          exact False.elim (by simpa [RelO] using rv)
        | some u =>
          rw [c] at rv
          exact ⟨u, H, I.tok _, by simpa [RelO] using rv, w1 u c⟩
      · rw [hn] at rv
        cases c : valV kvs k with
        | some u =>
          rw [c] at rv
          exact False.elim (by simpa [RelO] using rv)
        | none =>
          obtain ⟨q, es, ep, hq, h2, h3, h4, _, h5⟩ := dd'
          refine ⟨y, _, d_write (ob := .dT (putK kvs k y)) I (by rw [e]; exact True.intro) hs ⟨q, hq⟩ ⟨hl, hd, _, (rel.put k eb r2).keeps fun c ys ec => ?_, q, es, ep, hq, h2, h3, h4, h5⟩, r2, w2 c⟩
          rw [upd_ne (ne_of ec e (fun z => nomatch z))]
          exact ec

/-- a key as data -/
def kD : Key → D
  | .inl i => .int i
  | .inr x => .str x
theorem kD_v {P : FP} {v : V} {k : Key} (h : Dv P v (kD k)) : v = kV k := by
  cases k with
  | inl i => cases h; rfl
  | inr x => cases h; rfl
theorem kDs_v {P : FP} : ∀ {ks : List Key} {vs : List V}, DvAll P vs (ks.map kD) → vs = ks.map kV
  | [], _, h => by cases h; rfl
  | k :: ks, _, h => by
    cases h with
    | cons a b => rw [kD_v a, kDs_v b]; rfl
section
variable {κ : Type} [DecidableEq κ]
/-- what stands at a key -/
def valD : List κ → List D → κ → Option D
  | j :: ks, d :: ds, k => if j = k then some d else valD ks ds k
  | _, _, _ => none
theorem valD_ok {P : FP} {k : κ} : ∀ {ks : List κ} {xs : List V} {ds : List D}, ks.length = xs.length → DvAll P xs ds →
    (valD ks ds k = none ∧ valV (ks.zip xs) k = none) ∨ ∃ d v, valD ks ds k = some d ∧ valV (ks.zip xs) k = some v ∧ Dv P v d
  | [], [], _, _, .nil => .inl ⟨rfl, rfl⟩
  | j :: ks, x :: xs, d :: ds, h, .cons a b => by
    by_cases c : j = k
    · refine .inr ⟨d, x, ?_, ?_, a⟩
      · unfold valD
        rw [if_pos c]
      · rw [List.zip_cons_cons]
        exact valV_pos (p := (j, x)) c
    · rcases valD_ok (k := k) (ks := ks) (xs := xs) (ds := ds) (by simpa using h) b with ⟨h1, h2⟩ | ⟨d', v, h1, h2, h3⟩
      · refine .inl ⟨?_, ?_⟩
        · unfold valD
          rw [if_neg c]
          exact h1
        · rw [List.zip_cons_cons, valV_neg (p := (j, x)) c]
          exact h2
      · refine .inr ⟨d', v, ?_, ?_, h3⟩
        · unfold valD
          rw [if_neg c]
          exact h1
        · rw [List.zip_cons_cons, valV_neg (p := (j, x)) c]
          exact h2
end
section
variable {X : Cx} {B : Base} {e : Expr} {to ta : DE} {t : DA}
theorem Rel.dctP {O : List Addr} {σ : L2.St} {H : Hp} {δ : DS} {k : Nat} {v : V} {ob : Ob} {ks : List (List Key)} {ds : List D} (R : Rel B O σ H δ) (r : WR O δ.own H v (.own k)) (e : δ.own[k]? = some (some ob)) (c : core ob = .dct ks ds) :
    ∃ a xs, v = .ref a ∧ O[k]? = some a ∧ H a = some (.dT (ks.zip xs)) ∧ ks.length = xs.length ∧ DvAll (Fz O δ.own H) xs ds := by
  obtain ⟨a, rfl, h1, h2⟩ := R.at' r e
  have h3 := core_ok h2
  rw [c] at h3
  obtain ⟨xs, h4, h5, h6⟩ := h3
  exact ⟨a, xs, rfl, h1, h4, h5, h6⟩
/-- {} whose keys will be tuples -/
def dDct : DE := fun δ Q => Q (.own δ.own.length) ⟨δ.slots, δ.own ++ [some (.dct [] [])]⟩
theorem v_dct (h : PE X e (fun _ H Q => ∀ p, H p = none → Q (.ref p) (upd H p (.dT [])))) : PE X e (upE B dDct) := pe_imp h fun σ H Q ⟨O, δ, Qd, R, q, L⟩ => fun p n => by
  obtain ⟨h1, h2⟩ := own_new (ob := .dct [] []) (o := .dT []) R.st n ⟨[], upd_same, rfl, .nil⟩
  refine L _ _ _ _ _ q h2 (R.to h1 h2) ⟨p, ?_, rfl⟩
  rw [← R.st.len, List.getElem?_append_right (Nat.le_refl _), Nat.sub_self]
  rfl
/-- .setdefault(key, thing) -/
def dSetdT (to : DE) (t : DA) : DE := fun δ Q => to δ fun w δ1 => ∃ j ob ks ds, w = .own j ∧ δ1.own[j]? = some (some ob) ∧ core ob = .dct ks ds ∧ t δ1 fun ws δ2 => ∃ (k : List Key) (d : D) (ob : Ob) (ks : List (List Key)) (ds : List D),
  ws = [.dat (.tup (k.map kD)), .dat d] ∧ δ2.own[j]? = some (some ob) ∧ core ob = .dct ks ds ∧ ks.length < sizeLine ∧ (∀ u, valD ks ds k = some u → Q (.dat u) δ2) ∧
  (valD ks ds k = none → Q (.dat d) ⟨δ2.slots, δ2.own.set j (some (re ob (.dct (ks ++ [k]) (ds ++ [d]))))⟩)
theorem v_setdT (h : PE X e (tBM X.K "dict" rSetdT (upE B to) (upA B t))) : PE X e (upE B (dSetdT to t)) := pe_imp h fun σ H Q ⟨O, δ, Qd, R, h, L⟩ => by
  refine ⟨O, δ, _, R, h, fun w δ1 O1 v H1 ⟨j, ob, ks, ds, ew, es, c, q⟩ e1 R1 r1 => ?_⟩
  subst ew
  obtain ⟨a, xs, rfl, ha, hh, _⟩ := R1.dctP r1 es c
  refine ⟨.inr (.inr (.inl ⟨rfl, .inr ⟨_, hh⟩⟩)), O1, δ1, _, R1, q, fun ws δ2 O2 vs H2 ⟨k, d, ob2, ks2, ds2, ew, es2, c2, hl, q1, q2⟩ e2 R2 r2 => ?_⟩
  subst ew
  obtain ⟨x, y, rfl, rx, ry⟩ := r2.two
  obtain ⟨a', ys, ea, ha2, hh2, hk2, l2⟩ := R2.dctP (r1.ext e2) es2 c2
  cases ea
  have rx : Dv (Fz O2 δ2.own H2) x (.tup (k.map kD)) := rx
  cases rx with
  | @tup b zs _ eb lb =>
    have ez := kDs_v lb
    subst ez
    have hz : (ks2.zip ys).length < sizeLine := by rw [List.length_zip, ← hk2, Nat.min_self]; exact hl
    refine ⟨a, _, k, b, y, rfl, rfl, hh2, eb.1, hz, fun u cu => ?_, fun cn => ?_⟩
    · rcases valD_ok (k := k) hk2 l2 with ⟨_, h2⟩ | ⟨d', v', h1, h2, h3⟩
      · rw [cu] at h2
        cases h2
      · rw [cu] at h2
        cases h2
        exact L _ δ2 O2 _ H2 (q1 d' h1) (e1.trans e2) R2 h3
    · rcases valD_ok (k := k) hk2 l2 with ⟨h1, h2⟩ | ⟨d', v', h1, h2, h3⟩
      · rw [putK_new _ cn]
        have ez : ks2.zip ys ++ [(k, y)] = (ks2 ++ [k]).zip (ys ++ [y]) := by rw [List.zip_append hk2]; rfl
        rw [ez]
        obtain ⟨k1, k2⟩ := R2.setP (ob' := .dct (ks2 ++ [k]) (ds2 ++ [d])) (o := .dT ((ks2 ++ [k]).zip (ys ++ [y]))) ha2 es2 ⟨_, upd_same, by rw [List.length_append, List.length_append, hk2]; rfl, l2.app (.cons ry .nil)⟩
        exact L _ _ _ _ _ (q2 h1) ((e1.trans e2).trans k1) k2 (Dv.k (d := d) ry k1.fz)
      · rw [cn] at h2
        cases h2
end
end Va

set_option maxRecDepth 100000
set_option maxHeartbeats 2000000
namespace Va
open PySem PySem.Spec PyProof.Rows L2 Fd

/-! ### what stands in a dict whose keys are tuples -/
theorem key_tup {O : List Addr} {S : Own} {H : Hp} {y : V} {k : List Key} (h : WR O S H y (.dat (.tup (k.map kD)))) : ∃ b, y = .ref b ∧ H b = some (.tup (k.map kV)) := by
  have h : Dv (Fz O S H) y (.tup (k.map kD)) := h
  cases h with
  | @tup b zs _ eb lb =>
    have ez := kDs_v lb
    subst ez
    exact ⟨b, rfl, eb.1⟩
section
variable {X : Cx} {B : Base} {e i o : Expr} {pos : Pos} {to ti : DE}
/-- d[key], there -/
def dDGet (to ti : DE) : DE := fun δ Q => to δ fun w δ1 => ti δ1 fun y δ2 => ∃ k ks ds d, y = .dat (.tup (k.map kD)) ∧ Pk δ2.own w (.dct ks ds) ∧ valD ks ds k = some d ∧ Q (.dat d) δ2
theorem v_dget (h : PE X e (tDGet (upE B to) (upE B ti))) : PE X e (upE B (dDGet to ti)) := pe_imp h fun σ H Q ⟨O, δ, Qd, R, h, L⟩ =>
  ⟨O, δ, _, R, h, fun w δ1 O1 v H1 q e1 R1 r1 => ⟨O1, δ1, _, R1, q, fun y δ2 O2 u H2 ⟨k, ks, ds, d, ey, pk, ev, q2⟩ e2 R2 r2 => by
    subst ey
    obtain ⟨a, xs, rfl, eh, hl, l⟩ := pk_vw R2.st (r1.ext e2) pk
    obtain ⟨b, rfl, eb⟩ := key_tup r2
    rcases valD_ok (k := k) hl l with ⟨h1, _⟩ | ⟨d', v', h1, h2, h3⟩
    · rw [ev] at h1
      cases h1
    · rw [ev] at h1
      cases h1
      exact ⟨a, v', rfl, by rw [← h2]; exact DGet.t eh eb, L _ δ2 O2 _ H2 q2 (e1.trans e2) R2 h3⟩⟩⟩
/-- key in d -/
def dDIn (ti to : DE) : DE := fun δ Q => ti δ fun y δ1 => to δ1 fun w δ2 => ∃ k ks ds, y = .dat (.tup (k.map kD)) ∧ Pk δ2.own w (.dct ks ds) ∧ Q (.dat (.bl (valD ks ds k).isSome)) δ2
theorem up_din (σ : L2.St) (H : Hp) (Q : VK) : upE B (dDIn ti to) σ H Q → tDIn (upE B ti) (upE B to) σ H Q := fun ⟨O, δ, Qd, R, h, L⟩ =>
  ⟨O, δ, _, R, h, fun y δ1 O1 u H1 q e1 R1 r1 => ⟨O1, δ1, _, R1, q, fun w δ2 O2 v H2 ⟨k, ks, ds, ey, pk, q2⟩ e2 R2 r2 => by
    subst ey
    obtain ⟨a, xs, rfl, eh, hl, l⟩ := pk_vw R2.st r2 pk
    obtain ⟨b, rfl, eb⟩ := key_tup (r1.ext e2)
    have es : (valV (ks.zip xs) k).isSome = (valD ks ds k).isSome := by
      rcases valD_ok (k := k) hl l with ⟨h1, h2⟩ | ⟨d', v', h1, h2, h3⟩
      · rw [h1, h2]
        rfl
      · rw [h1, h2]
        rfl
    exact ⟨a, _, rfl, DGet.t eh eb, by rw [es]; exact L _ δ2 O2 _ H2 q2 (e1.trans e2) R2 (.bl _)⟩⟩⟩
theorem v_din (h : PE X e (tDIn (upE B ti) (upE B to))) : PE X e (upE B (dDIn ti to)) := pe_imp h up_din
theorem vt_din (h : PC X .In i o (tDIn (upE B ti) (upE B to))) (hm : behindInMarks .In o = false := by first | exact nobehind _ (by decide) (by decide) | rfl) : PT X (.Compare i [.In] [o] pos) (upT B (dTest (dDIn ti to))) := pt_imp (pt_cmp h hm) fun σ H Q h => by
  obtain ⟨O, δ, Qd, R, h, L⟩ := h
  refine up_din σ H _ ⟨O, δ, _, R, h, fun w δ1 O1 v H1 q e1 R1 r1 => ?_⟩
  obtain ⟨k, ew, q⟩ := q
  subst ew
  cases r1
  exact ⟨k, rfl, L k δ1 O1 H1 q e1 R1⟩
/-- d.get(key) -/
def dDGet1 (to ti : DE) : DE := fun δ Q => to δ fun w δ1 => ∃ ks0 ds0, Pk δ1.own w (.dct ks0 ds0) ∧ ti δ1 fun y δ2 => ∃ k ks ds, y = .dat (.tup (k.map kD)) ∧ Pk δ2.own w (.dct ks ds) ∧ Q (.dat ((valD ks ds k).getD .non)) δ2
theorem v_dget1 (h : PE X e (tDGet1 (upE B to) (upE B ti))) : PE X e (upE B (dDGet1 to ti)) := pe_imp h fun σ H Q ⟨O, δ, Qd, R, h, L⟩ =>
  ⟨O, δ, _, R, h, fun w δ1 O1 v H1 ⟨ks0, ds0, pk0, q⟩ e1 R1 r1 => by
    obtain ⟨a, xs0, rfl, eh0, _, _⟩ := pk_vw R1.st r1 pk0
    refine ⟨a, rfl, .inr ⟨_, .inl eh0⟩, O1, δ1, _, R1, q, fun y δ2 O2 u H2 ⟨k, ks, ds, ey, pk, q2⟩ e2 R2 r2 => ?_⟩
    subst ey
    obtain ⟨a', xs, ea, eh, hl, l⟩ := pk_vw R2.st (r1.ext e2) pk
    cases ea
    obtain ⟨b, rfl, eb⟩ := key_tup r2
    refine ⟨_, DGet.t eh eb, ?_⟩
    rcases valD_ok (k := k) hl l with ⟨h1, h2⟩ | ⟨d', v', h1, h2, h3⟩
    · rw [h1] at q2
      rw [h2]
      exact L _ δ2 O2 _ H2 q2 (e1.trans e2) R2 .non
    · rw [h1] at q2
      rw [h2]
      exact L _ δ2 O2 _ H2 q2 (e1.trans e2) R2 h3⟩
end
end Va

set_option maxRecDepth 100000
set_option maxHeartbeats 2000000
namespace Va
open PySem PySem.Spec PyProof.Rows L2 Fd
section
variable {X : Cx} {B : Base} {e o : Expr} {st : Stmt} {C : Addr} {f : Str} {ta tv te : DE}
/-- o.f += e, ints -/
def dFldAug (C : Addr) (f : Str) (ta tv : DE) : DP := fun D δ => ta δ fun w δ1 => ∃ k ob ns ds i, w = .own k ∧ δ1.own[k]? = some (some ob) ∧ core ob = .ins C ns ds ∧ fldD f ns ds = some (.int i) ∧
  tv δ1 fun y δ2 => ∃ j ob ns ds, y = .dat (.int j) ∧ δ2.own[k]? = some (some ob) ∧ core ob = .ins C ns ds ∧ ns.length < 1000 ∧ D.nx ⟨δ2.slots, δ2.own.set k (some (re ob (.ins C (put2 f (.int (i + j)) ns ds).1 (put2 f (.int (i + j)) ns ds).2)))⟩
theorem v_fldaug (hc : Cls X.K C) (hn : NoAttr X.K C f) (h : PS X st (sFldAug X.K (upE B ta) (upE B tv) rAdd f)) : PS X st (upS B (dFldAug C f ta tv)) := ps_imp h fun E σ H ⟨O, δ, Dd, R, h, L⟩ =>
  ⟨O, δ, _, R, h, fun w δ1 O1 v H1 ⟨k, ob, ns, ds, i, ew, es, c, ef, q⟩ e1 R1 r1 => by
    subst ew
    obtain ⟨a, rfl, h1, h2⟩ := R1.at' r1 es
    have h3 := core_ok h2
    rw [c] at h3
    obtain ⟨dx, xs, h4, h5, hl, l⟩ := h3
    obtain ⟨x, el, hx⟩ := fld_ok l ef
    cases hx
    refine ⟨a, C, dx, _, _, rfl, h4, hc, hn, el, O1, δ1, _, R1, q, fun y δ2 O2 u H2 ⟨j, ob2, ns2, ds2, ey, es2, c2, hfew, q2⟩ e2 R2 r2 => ?_⟩
    subst ey
    cases r2
    obtain ⟨a', dx2, xs2, ea, eh2, hl2, k1, k2⟩ := R2.fldP (f := f) (v := .int (i + j)) (d := .int (i + j)) (r1.ext e2) es2 c2 (.int _)
    cases ea
    exact ⟨i, j, rfl, rfl, dx2, _, eh2, by rw [List.length_zip, ← hl2, Nat.min_self]; exact hfew, L.nx _ _ _ _ q2 ((e1.trans e2).trans k1) k2⟩⟩
/-- x += e, ints -/
def dAug (i : Nat) (te : DE) : DP := fun D δ => ∃ a : Int, δ.slots[i]? = some (some (.dat (.int a))) ∧ te δ fun y δ1 => ∃ b : Int, y = .dat (.int b) ∧ D.nx ⟨δ1.slots.set i (some (.dat (.int (a + b)))), δ1.own⟩
theorem v_aug {i : Nat} (h : PS X st (tAug i (upE B te) (ipI fun i j => i + j))) : PS X st (upS B (dAug i te)) := ps_imp h fun E σ H ⟨O, δ, Dd, R, ⟨a, ea, h⟩, L⟩ => by
  obtain ⟨v, h1, h2⟩ := R.sl i _ ea
  have h2 : Dv (Fz O δ.own H) v (.int a) := h2
  cases h2
  refine ⟨_, h1, O, δ, _, R, h, fun w δ1 O1 u H1 ⟨b, ew, q⟩ e1 R1 r1 => ?_⟩
  subst ew
  cases r1
  exact ⟨a, b, rfl, rfl, L.nx _ _ _ _ q e1 (R1.set (w := .dat (.int (a + b))) i (Dv.int _))⟩
end
end Va

set_option maxRecDepth 100000
set_option maxHeartbeats 2000000
namespace L2
open PySem PySem.Spec PyProof.Rows
section
variable {prog : Program} {w : World} {A : Around} {E : Value → Shared → Prop} {s : Shared}
theorem gone_tail (xs : List Value) (a : Nat) : xs.zipIdx.filterMap (fun x => if (decide ((a : Int) ≤ (x.2 : Int)) && decide ((x.2 : Int) < (xs.length : Int)) && (((x.2 : Int) - (a : Int)) % 1 == 0)) = true then none else some x.1) = xs.take a := by
  have key : ∀ (ys : List Value) (k n : Nat), k + ys.length = n → (ys.zipIdx k).filterMap (fun x => if (decide ((a : Int) ≤ (x.2 : Int)) && decide ((x.2 : Int) < (n : Int)) && (((x.2 : Int) - (a : Int)) % 1 == 0)) = true then none else some x.1) = ys.take (a - k) := by
    intro ys
    induction ys with
    | nil => intro k n _; simp
    | cons y ys ih =>
      intro k n h
      rw [List.length_cons] at h
      rw [List.zipIdx_cons, List.filterMap_cons]
      have r := ih (k + 1) n (by omega)
      by_cases c : a ≤ k
      · have e1 : a - k = 0 := by omega
        have e2 : a - (k + 1) = 0 := by omega
        rw [e2] at r
        rw [if_pos (by
          rw [decide_eq_true (show (a : Int) ≤ (k : Int) by omega), decide_eq_true (show (k : Int) < (n : Int) by omega)]
          simp), e1, r]
        rfl
      · rw [if_neg (by
          rw [decide_eq_false (show ¬ (a : Int) ≤ (k : Int) by omega)]
          simp), r]
        rw [show a - k = (a - (k + 1)) + 1 by omega]
        rfl
  have z := key xs 0 xs.length (by omega)
  simpa using z
theorem bounds_tail {a n : Nat} (ha : a ≤ n) : sliceBounds (some (a : Int)) none none n = ((a : Int), (n : Int), 1) := by
  simp only [sliceBounds, Option.getD_none]
  have h1 : ¬ ((a : Int) < 0) := by omega
  simp only [h1, if_false, show (1 : Int) > 0 by decide, if_true]
  congr 1
  omega
set_option maxRecDepth 100000 in
/-- list.__delitem__ with a slice [a:] -/
theorem delItem_tail {l sl : Addr} {items : Array Value} {n : Nat} {vl : Value} {a : Nat} {Q : Unit → Shared → Prop}
    (e : s.heap.get? l = some { cls := .type "list", data := .seq items n }) (hs : s.heap.IsSliceOf sl vl .none .none) (pl : IsPart vl (some (a : Int))) (ha : a ≤ items.size) (hsz : items.size ≤ sizeLine)
    (h : ∀ f : Array Value → Array Value, f items = (items.toList.take a).toArray → Q () { s with heap := s.heap.update l (Obj.mapSeq f) }) :
    wpAny (model prog w) A (delItem (.ref l) (.ref sl)) Q E s := by
  have hl : s.heap.IsList l items := PySem.IsL.isList e
  obtain ⟨os, hos, hcs, hds⟩ := id hs
  have hTs : s.TypeIs (.ref sl) "slice" := ⟨os, hos, hcs⟩
  have hstep : ¬ ((rawPart none == rawInt 0) = true) := Bool.false_ne_true
  unfold delItem
  try with_reducible refine wpAny_holding ?_
  refine wpAny_bind (wpAny_sequenceKey hl.typeIs (by decide) ?_)
  refine wpAny_bind (wpAny_callSpecial?_slot (name := Str.ofString "__delitem__") hl.typeIs PySem.F.slot_list_delitem
    (wpAny_call_entry PySem.F.slot_list_delitem hl.typeIs PySem.F.entry_list_delitem ?_ (PySem.F.args_list_delitem_2 _ _)))
  show wpAny _ _ (Builtin.List.listSubscript? (.ref sl) >>= _) _ _ s
  refine wpAny_bind ?_
  unfold Builtin.List.listSubscript?
  refine wpAny_bind (wpAny_specialOf hTs slice_no_index ?_)
  simp only [Option.isNone_none, if_true]
  refine wpAny_pure ?_
  show wpAny _ _ (typeOf (.ref sl) >>= _) _ _ s
  refine wpAny_bind (wpAny_typeOf hTs ?_)
  first
    | rw [if_neg (by decide)]
    | refine PySem.W.KFB.if_not (by decide) ?_
  rw [listSliceParts_eq]
  refine wpAny_bind (wpAny_bind (wpAny_field hos hds (x := .none) rfl (wpAny_bind (wpAny_listPart .none ?_))))
  rw [if_neg hstep]
  refine wpAny_bind (wpAny_field hos hds (x := vl) rfl (wpAny_bind (wpAny_listPart pl ?_)))
  refine wpAny_bind (wpAny_field hos hds (x := .none) rfl (wpAny_bind (wpAny_listPart .none (wpAny_pure ?_))))
  unfold Builtin.List.listItems
  refine wpAny_bind (wpAny_bind (wpAny_seqItems e rfl (wpAny_pure ?_)))
  refine wpAny_bind (wpAny_of_eq ((sliceIndices_raw (some (a : Int)) none none items.size (by simp)).trans (congrArg (pure : Int × Int × Int → Sem (Int × Int × Int)) (bounds_tail ha))) ?_)
  refine wpAny_bind (wpAny_rule ?_)
  have hf := congrArg List.toArray (gone_tail items.toList a)
  show wpAny _ _ (updateSeq l _ >>= _) _ _ s
  refine wpAny_bind (wpAny_updateSeq (hz := hsz) (_hz' := Nat.le_trans (Nat.le_of_eq (congrArg Array.size hf)) (by
    rw [List.size_toArray, List.length_take]
    have : items.toList.length = items.size := rfl
    omega)) e rfl ?_)
  refine wpAny_bind (wpAny_letGo ?_)
  refine wpAny_pure ⟨.none, rfl, wpAny_pure (h _ ?_)⟩
  exact hf
end
end L2

set_option maxRecDepth 100000
set_option maxHeartbeats 2000000
namespace L2
open PySem PySem.Spec PyProof.Rows
/-- del o[lo:] of a list -/
def tDelT (to : TE) (tl th : TO) : TS := fun D σ H => to σ H fun x H1 => tl σ H1 fun lo H2 => th σ H2 fun hi H3 => ∃ (l : Addr) (xs : List V) (a : Nat), x = .ref l ∧ lo = some (a : Int) ∧ hi = none ∧ H3 l = some (.lst xs) ∧ a ≤ xs.length ∧ D.nx σ (upd H3 l (.lst (xs.take a)))
theorem ps_delT {X : Cx} {o : Expr} {lo hi : Option Expr} {to : TE} {tl th : TO} {p2 tpos pos : Pos} (ho : PE X o to) (hl : PO X lo tl) (hu : PO X hi th) : PS X (.Delete [.Subscript o (.Slice lo hi none p2) tpos] pos) (tDelT to tl th) := by
  refine ⟨fun pins s σ H D I h => ?_⟩
  refine wpAny_Delete (wpAny_deleteEach_cons (wpAny_delete_Subscript (thn (ho.run pins s σ H _ I h) fun u s1 ⟨x, H1, I1, rx, q1⟩ => ?_)))
  refine wpAny_Slice (thn (hl.run pins s1 σ H1 _ I1 q1) fun vl s2 ⟨l, H2, I2, pl, q2⟩ => thn (hu.run pins s2 σ H2 _ I2 q2) fun vu s3 ⟨z, H3, I3, pu, q3⟩ => ?_)
  rw [evalPart_none]
  refine wpAny_pure ?_
  have I4 : Inv X pins σ H3 { s3 with heap := s3.heap.push { cls := .type "slice", data := .fields #[vl, vu, .none] } } := I3.kept (t' := s3.toks) fun b ob q => Heap.get?_push_of_some _ q
  obtain ⟨b, xs, a, ex, el, eh, hH, ha, q4⟩ := q3
  subst ex el eh
  cases (show u = Value.ref b from rx)
  cases pu
  obtain ⟨zz, its, n, r, hlen, e⟩ := I4.lstM hH
  have hsl := Heap.IsSliceOf.new s3.heap vl Value.none Value.none
  refine delItem_tail (a := a) e hsl pl (by rw [List.size_toArray, ← r.length]; exact ha) (by rw [List.size_toArray]; omega) fun f hf => ?_
  have I5 := I4.lset (its' := its.take a) (ys := xs.take a) (f := f) (t' := s3.toks) hH e (by rw [hf]) (r.take _) (by rw [List.length_take]; omega)
  exact wpAny_deleteEach_nil ⟨σ, _, I5, q4⟩
end L2

namespace Va
open PySem PySem.Spec PyProof.Rows L2 Fd
section
variable {X : Cx} {B : Base} {st : Stmt} {to : DE} {tl th : DO}
/-- del o[a:] -/
def dDelT (to : DE) (tl th : DO) : DP := fun D δ => to δ fun w δ1 => tl δ1 fun lo δ2 => th δ2 fun hi δ3 => ∃ k ob ds a, w = .own k ∧ lo = some ((a : Nat) : Int) ∧ hi = none ∧ δ3.own[k]? = some (some ob) ∧ core ob = .lst ds ∧ a ≤ ds.length ∧ D.nx ⟨δ3.slots, δ3.own.set k (some (re ob (.lst (ds.take a))))⟩
theorem v_delT (h : PS X st (tDelT (upE B to) (upO B tl) (upO B th))) : PS X st (upS B (dDelT to tl th)) := ps_imp h fun E σ H ⟨O, δ, Dd, R, h, L⟩ =>
  ⟨O, δ, _, R, h, fun w δ1 O1 v H1 q e1 R1 r1 => ⟨O1, δ1, _, R1, q, fun lo δ2 O2 H2 q2 e2 R2 => ⟨O2, δ2, _, R2, q2, fun hi δ3 O3 H3 ⟨k, ob, ds, a, ew, el, eh, es, c, ha, q3⟩ e3 R3 => by
    subst ew
    obtain ⟨b, xs, rfl, hb, hh, l⟩ := R3.lstP (r1.ext (e2.trans e3)) es c
    obtain ⟨k1, k2⟩ := R3.setP (ob' := .lst (ds.take a)) (o := .lst (xs.take a)) hb es ⟨_, upd_same, l.take a⟩
    exact ⟨b, xs, a, rfl, el, eh, hh, by rw [l.len]; exact ha, L.nx _ _ _ _ q3 (((e1.trans e2).trans e3).trans k1) k2⟩⟩⟩⟩
end
end Va

set_option maxRecDepth 100000
set_option maxHeartbeats 2000000
namespace Va
open PySem PySem.Spec PyProof.Rows L2 Fd
/-- o.m(..) whose errors are wished by the state -/
def tMethS (C : Addr) (m : Str) (sp : Sp) (E : L2.St → XK) (ta : TE) (t : TA) : TE := fun σ H Q => ta σ H fun x H1 => ∃ a dx fs, x = .ref a ∧ H1 a = some (.ins C dx fs) ∧ fs.lookup m = none ∧ t σ H1 fun vs H2 => sp (x :: vs) H2 Q (E σ)
section
variable {X : Cx} {k : Nat} {C f : Addr} {fd : FuncData} {ps : List Str} {sp : Sp} {m : Str} {E : L2.St → XK} {o e : Expr} {es : List Expr} {ta : TE} {t : TA} {apos pos : Pos} {pl : Sem Bool}
theorem pe_methS0 (he : PE X o ta) (c : Cls X.K C) (hm : Meth X.K C m f) (F : FnOk X.prog X.w X.K X.mg X.base (L2.CX X.prog X.w) k f fd ps sp) (hr : Room k X.A) (hb : Binds X.K fd ps []) (hx : ∀ σ, PassesAt (L2.CX X.prog X.w) X σ (E σ))
    (ht : eval (.Call (.Attribute o m apos) [] [] pos) X.env = (do
      let ov ← eval o X.env
      standAt apos.atName
      let (f, first) ← holding [ov] (getMethod ov m pl)
      callWith pos f first (backTo pos (starEach [] X.env)) (backToKw pos (keywordEach [] X.env))) := by rfl) :
    PE X (.Call (.Attribute o m apos) [] [] pos) (tMethS C m sp E ta tNil) := by
  refine ⟨fun pins s σ H Q I h => ?_⟩
  refine PySem.W.methodCall_KW (pl := pl) (thn (he.run pins s σ H _ I h) fun u s1 ⟨x, H1, I1, rx, a, dx, fs, ex, ea, l, q⟩ => ?_) ht
  subst ex
  obtain rfl : u = Value.ref a := rx
  refine getmeth_ok I1 ea c hm l ?_
  refine PySem.W.callWith_K0 (first := [.ref a]) I1.kIn hm.kp ?_
  exact run_fnS (us := [.ref a]) (vs := [.ref a]) F hr hb (hx σ) I1 (.cons rfl .nil) q
theorem pe_methS1 (he : PE X o ta) (c : Cls X.K C) (hm : Meth X.K C m f) (F : FnOk X.prog X.w X.K X.mg X.base (L2.CX X.prog X.w) k f fd ps sp) (hr : Room k X.A) (hb : Binds X.K fd ps []) (hx : ∀ σ, PassesAt (L2.CX X.prog X.w) X σ (E σ)) (ha : PA X (e :: es) t)
    (hst : starEach (e :: es) X.env = (false, eval e X.env) :: starEach es X.env := by rfl) (hpl : (backTo pos (starEach es X.env)).any (·.1) = false := by rfl)
    (ht : eval (.Call (.Attribute o m apos) (e :: es) [] pos) X.env = (do
      let ov ← eval o X.env
      standAt apos.atName
      let (f, first) ← holding [ov] (getMethod ov m pl)
      callWith pos f first (backTo pos (starEach (e :: es) X.env)) (backToKw pos (keywordEach [] X.env))) := by rfl) :
    PE X (.Call (.Attribute o m apos) (e :: es) [] pos) (tMethS C m sp E ta t) := by
  refine ⟨fun pins s σ H Q I h => ?_⟩
  refine PySem.W.methodCall_KW (pl := pl) (thn (he.run pins s σ H _ I h) fun u s1 ⟨x, H1, I1, rx, a, dx, fs, ex, ea, l, q⟩ => ?_) ht
  subst ex
  obtain rfl : u = Value.ref a := rx
  refine getmeth_ok I1 ea c hm l ?_
  refine PySem.W.callWith_K (first := [.ref a]) (h₀ := X.base) I1.ok.mod.kin hm.kp (thn (ha.run pos pins s1 σ H1 _ I1 q) fun us s2 ⟨vs, H2, I2, r, q2⟩ => ⟨I2.kIn, ?_⟩) hst hpl
  exact run_fnS (us := .ref a :: us) (vs := .ref a :: vs) F hr hb (hx σ) I2 (.cons rfl r) q2
end
section
variable {X : Cx} {B : Base} {e o : Expr} {es : List Expr} {C : Addr} {m : Str} {ta : DE} {t : DA} {sd : SpD} {W : WX} {Wd : WD} {k : Nat} {ps : List Str} {apos pos : Pos}
/-- a method's call in the body of a try -/
theorem v_methT (lw : LW B Wd W) (h : PE X e (tMethS C m (lift sd) (WE W) (upE B ta) (upA B t))) : PE X e (upE B (dMethT C m sd Wd ta t)) := pe_imp h fun σ H Q ⟨O, δ, Qd, R, h, L⟩ =>
  ⟨O, δ, _, R, h, fun w δ1 O1 v H1 ⟨ns, ds, pk, nm, q⟩ e1 R1 r1 => by
    have r1' := r1
    obtain ⟨a, dx, xs, rfl, eh, _, hl, l⟩ := pk_vw R1.st r1 pk
    refine ⟨a, dx, _, rfl, eh, lookup_no nm, O1, δ1, _, R1, q, fun ws δ2 O2 vs H2 q2 e2 R2 r2 => ?_⟩
    exact ⟨O2, δ2.own, w :: ws, _, _, R2.st, .cons (r1'.ext e2) r2, q2, ⟨fun u S' O' x H' q' e' st' wr => L u _ O' x H' q' ((e1.trans e2).trans e') (R2.to st' e') wr⟩,
      ⟨fun C d S' O' dd v H' q' e' st' hv hd => lw C d _ O' σ dd v H' q' (R2.to st' e') hv hd⟩⟩⟩
theorem pe_methT0 {ta : TE} {pl : Sem Bool} (c : MetF X.prog X.w X.K X.mg X.base k C m ps sd) (hC : Cls X.K C) (hr : Room k X.A) (tk : L2.Takes X W) (he : PE X o ta)
    (ht : eval (.Call (.Attribute o m apos) [] [] pos) X.env = (do
      let ov ← eval o X.env
      standAt apos.atName
      let (f, first) ← holding [ov] (getMethod ov m pl)
      callWith pos f first (backTo pos (starEach [] X.env)) (backToKw pos (keywordEach [] X.env))) := by rfl) :
    PE X (.Call (.Attribute o m apos) [] [] pos) (tMethS C m (lift sd) (WE W) ta tNil) := by
  obtain ⟨g, fd, hm, hb, F⟩ := c.ex
  exact pe_methS0 (pl := pl) he hC hm F hr hb (fun σ => passAt tk σ) ht
end
end Va

set_option maxRecDepth 100000
set_option maxHeartbeats 2000000
namespace Va
open PySem PySem.Spec PyProof.Rows L2 Fd

/-! ### list.extend of a tuple -/
section
open PySem.AutoSeq1 (wpAny_loadPart')
open PySem.MeetsSeq
theorem ext_list_tup (l : Addr) (us : Array Value) (n : Nat) (b : Addr) (o : Obj) (vs : Array Value) (m : Nat) (h0 : ¬(!us.isEmpty && Builtin.List.listTooLong (us.size + vs.size)) = true) (h1 : us.size ≤ sizeLine) (h2 : us.size + vs.size ≤ sizeLine + 1)
    (oc : o.cls = .type "tuple") (od : o.data = .seq vs m) : Meets (Builtin.«list.extend» ⟨[.ref l, .ref b], []⟩) (fun _ R s => s.heap.get? l = some { cls := .type "list", data := .seq us n } ∧ s.heap.get? b = some o ∧
      R (.ok (.ret Value.none)) { s with heap := s.heap.update l (Obj.mapSeq fun x => x ++ vs), toks := s.toks }) :=
  .of_wp fun prog w A R s h => by
    obtain ⟨hp, g, d, tk, os⟩ := s
    obtain ⟨hl, hb, h⟩ := h
    obtain ⟨cls, dc, data, sl⟩ := o
    simp only at oc od
    subst oc od
    have g1 := PySem.F.sub_tuple_tuple
    have g2 := PySem.F.sub_list_list
    have g3 := PySem.F.sub_tuple_list
    have g4 := PySem.F.sub_list_tuple
    have hz' : (us ++ vs).size ≤ sizeLine + 1 := by rw [Array.size_append]; exact h2
    wp_walk using (wpAny_updateSeq hl rfl (hz := h1) (_hz' := hz')), wpAny_loadPart' hl, wpAny_loadPart' hb
    exact ⟨_, rfl, h⟩
end
def rExtendT : V → List V → Hp → VK → Prop := fun x vs H Q => ∃ l b xs zs, x = .ref l ∧ vs = [.ref b] ∧ H l = some (.lst xs) ∧ H b = some (.tup zs) ∧ xs.length + zs.length ≤ sizeLine ∧ Q .non (upd H l (.lst (xs ++ zs)))
theorem mt_extendT {X : Cx} : MtM X "list.extend" rExtendT := by
  intro pins s σ H x vs v us Q I rx rv h
  obtain ⟨l, b, xs, zs, rfl, rfl, hH, hB, hz, q⟩ := h
  cases rx
  obtain ⟨u, rfl, ru⟩ := rv.one
  cases ru
  obtain ⟨z, its, n, r, hl, e⟩ := I.lstM hH
  have z1 : ObjOk X.prog X.w H s.heap b (.tup zs) := I.hok b _ hB
  obtain ⟨_, its2, r2, e2⟩ := z1
  have hl2 := r2.length
  have hl1 := r.length
  have hsz : its.toArray.size + its2.toArray.size ≤ sizeLine := by rw [List.size_toArray, List.size_toArray]; omega
  have hlong : ¬ (!its.toArray.isEmpty && Builtin.List.listTooLong (its.toArray.size + its2.toArray.size)) = true := by
    rw [L2.notLongL hsz, Bool.and_false]
    exact Bool.false_ne_true
  obtain ⟨o, e3, oc, m, od⟩ := e2
  refine call_meets F.slot_list_extend ⟨_, e, rfl⟩ F.entry_list_extend (F.args_list_extend_2 _ _)
    (ext_list_tup l its.toArray n b o its2.toArray m hlong (by rw [List.size_toArray]; omega) (by omega) oc od) ⟨e, e3, ?_⟩
  refine ⟨.non, _, I.lset (its' := its ++ its2) hH e (by simp) (r.append r2) ?_, rfl, q⟩
  rw [List.length_append]
  omega
section
variable {X : Cx} {B : Base} {e : Expr} {to : DE} {t : DA}
def dExtT (to : DE) (t : DA) : DE := fun δ Q => to δ fun w δ1 => ∃ k ob ds0, w = .own k ∧ δ1.own[k]? = some (some ob) ∧ core ob = .lst ds0 ∧ t δ1 fun ws δ2 => ∃ es ob ds, ws = [.dat (.tup es)] ∧ δ2.own[k]? = some (some ob) ∧ core ob = .lst ds ∧ ds.length + es.length ≤ sizeLine ∧ Q (.dat .non) ⟨δ2.slots, δ2.own.set k (some (re ob (.lst (ds ++ es))))⟩
theorem up_extT (σ : L2.St) (H : Hp) (Q : VK) : upE B (dExtT to t) σ H Q → tBM X.K "list" rExtendT (upE B to) (upA B t) σ H Q := fun ⟨O, δ, Qd, R, h, L⟩ => by
  refine ⟨O, δ, _, R, h, fun w δ1 O1 v H1 ⟨k, ob, ds0, ew, es, c, q⟩ e1 R1 r1 => ?_⟩
  subst ew
  obtain ⟨a, xs, rfl, ha, hh, _⟩ := R1.lstP r1 es c
  refine ⟨.inl ⟨rfl, xs, SqL.of hh⟩, O1, δ1, _, R1, q, fun ws δ2 O2 vs H2 ⟨es2, ob2, ds, ew, es3, c3, hl, q3⟩ e2 R2 r2 => ?_⟩
  subst ew
  obtain ⟨x, rfl, rx⟩ := r2.one
  have rx : Dv (Fz O2 δ2.own H2) x (.tup es2) := rx
  cases rx with
  | @tup b zs _ eb lb =>
    obtain ⟨a', ys, ea, ha3, hh3, l3⟩ := R2.lstP (r1.ext e2) es3 c3
    cases ea
    refine ⟨a, b, ys, zs, rfl, rfl, hh3, eb.1, by rw [l3.len, lb.len]; exact hl, ?_⟩
    obtain ⟨h1, h2⟩ := R2.setP (ob' := .lst (ds ++ es2)) (o := .lst (ys ++ zs)) ha3 es3 ⟨_, upd_same, l3.app lb⟩
    exact L _ _ _ _ _ q3 ((e1.trans e2).trans h1) h2 .non
theorem v_extT (h : PE X e (tBM X.K "list" rExtendT (upE B to) (upA B t))) : PE X e (upE B (dExtT to t)) := pe_imp h up_extT
end

/-! ### hand promises as data -/
section
variable {P : Program} {w : World} {K : PySem.W.Frag} {mg : Str → Option Value} {base : Heap}
def sdShifted : SpD := fun ws S Q _ => ∃ (b : Bool) (ns : List Int) (by_ : Int), ws = [.dat (sq b (ns.map D.int)), .dat (.int by_)] ∧ ns.length ≤ 1000000 ∧ Q (.dat (iv (shiftI by_ ns))) S
theorem shifted_v {k : Nat} {x : Str} {ps : List Str} (C : Fd.Pr P w K mg base k x ps (spShifted K)) : Fd.Pr P w K mg base k x ps (lift sdShifted) := by
  obtain ⟨fa, fd, g, kp, b, F⟩ := C.ex
  refine ⟨fa, fd, g, kp, b, F.imp ?_⟩
  rintro vs H Q E ⟨O, S, ws, Qd, Ed, st, rs, ⟨bb, ns, by_, rfl, hl, q⟩, L, _⟩
  obtain ⟨v, x, rfl, r1, r2⟩ := rs.two
  cases r2
  have fin : ∀ p H', Same H H' → H' p = some (.tup ((shiftI by_ ns).map V.int)) → Q (.ref p) H' := fun p H' s e => by
    obtain ⟨k1, k2⟩ := own_keep st s
    exact L.q _ S O _ H' q k2 k1 (Dv.tup ⟨e, tup_no k1 e⟩ (.ints _))
  have r1 : Dv (Fz O S H) v (sq bb (ns.map D.int)) := r1
  cases bb with
  | true =>
    have r1 : Dv (Fz O S H) v (.lst (ns.map D.int)) := r1
    cases r1 with
    | lst e l =>
      have z := l.intsInv
      subst z
      exact ⟨_, ns, true, by_, rfl, SqL.of e.1, hl, fin⟩
  | false =>
    have r1 : Dv (Fz O S H) v (.tup (ns.map D.int)) := r1
    cases r1 with
    | tup e l =>
      have z := l.intsInv
      subst z
      exact ⟨_, ns, false, by_, rfl, SqT.of e.1, hl, fin⟩
end

/-! ### what rules write -/
def outIt (bs : List Int) (sg : Option Int) : Itm → List Int
  | .put xs => xs
  | .plus k => match sg with
    | some s => [(s + k) % 100]
    | none => []
  | .own j k => shiftI k (j :: bs.drop 1)
def outIs (bs : List Int) (sg : Option Int) (is : List Itm) : List Int := (is.map (outIt bs sg)).flatten
def szIt (nb : Nat) (fin : Bool) : Itm → Nat
  | .put xs => xs.length
  | .plus _ => if fin then 0 else 1
  | .own _ _ => nb
def szIs (nb : Nat) (fin : Bool) (is : List Itm) : Nat := (is.map (szIt nb fin)).sum
theorem szIt_len {bs : List Int} {sg : Option Int} (hb : bs ≠ []) (i : Itm) : (outIt bs sg i).length = szIt bs.length sg.isNone i := by
  cases i with
  | put xs => rfl
  | plus k => cases sg <;> rfl
  | own j k =>
    show (shiftI k (j :: bs.drop 1)).length = bs.length
    unfold shiftI
    cases bs with
    | nil => exact absurd rfl hb
    | cons x r => simp
theorem szIs_len {bs : List Int} {sg : Option Int} (hb : bs ≠ []) : ∀ is : List Itm, (outIs bs sg is).length = szIs bs.length sg.isNone is
  | [] => rfl
  | i :: is => by
    show (outIt bs sg i ++ outIs bs sg is).length = szIt bs.length sg.isNone i + szIs bs.length sg.isNone is
    rw [List.length_append, szIt_len hb, szIs_len hb is]
theorem szIs_snoc (nb : Nat) (fin : Bool) (is : List Itm) (i : Itm) : szIs nb fin (is ++ [i]) = szIs nb fin is + szIt nb fin i := by
  unfold szIs
  rw [List.map_append, List.sum_append]
  simp
theorem outIs_snoc (bs : List Int) (sg : Option Int) (is : List Itm) (i : Itm) : outIs bs sg (is ++ [i]) = outIs bs sg is ++ outIt bs sg i := by
  unfold outIs
  rw [List.map_append, List.flatten_append]
  simp
def wdFin : Wd → Bool
  | .fin => true
  | _ => false
def sgV : Option Int → D
  | some s => .int s
  | none => .non
/-- the key of a rule in the dict of a program -/
def wdK : Wd → Key
  | .sign x => .inl x
  | .other => .inr "other"
  | .fin => .inr "end"
def ruK (u : Ru) : List Key := [.inl u.stand, wdK u.word]
theorem ruK_d (u : Ru) : (ruK u).map kD = [.int u.stand, Wd.v u.word] := by
  obtain ⟨s, wd, its, nx⟩ := u
  cases wd <;> rfl
def tk1 (p : List (List Key) × List D) (u : Ru) : List (List Key) × List D := match valD p.1 p.2 (ruK u) with
  | some _ => p
  | none => (p.1 ++ [ruK u], p.2 ++ [Ru.v u])
def takeR (us : List Ru) : List (List Key) × List D := us.foldl tk1 ([], [])
theorem takeR_snoc (us : List Ru) (u : Ru) : takeR (us ++ [u]) = tk1 (takeR us) u := by
  unfold takeR
  rw [List.foldl_append]
  rfl
def findK (us : List Ru) (k : List Key) : Option Ru := us.find? fun u => decide (ruK u = k)
section
variable {κ : Type} [DecidableEq κ]
theorem valD_snoc (k j : κ) (d : D) : ∀ {ks : List κ} {ds : List D}, ks.length = ds.length → valD (ks ++ [j]) (ds ++ [d]) k = (valD ks ds k).or (if j = k then some d else none)
  | [], [], _ => by
    show (if j = k then some d else valD [] [] k) = _
    unfold valD
    simp
  | i :: ks, e :: ds, h => by
    show (if i = k then some e else valD (ks ++ [j]) (ds ++ [d]) k) = ((if i = k then some e else valD ks ds k)).or _
    by_cases c : i = k
    · rw [if_pos c, if_pos c]
      rfl
    · rw [if_neg c, if_neg c]
      exact valD_snoc k j d (by simpa using h)
end
theorem takeR_ok (us : List Ru) : (takeR us).1.length = (takeR us).2.length ∧ ∀ k, valD (takeR us).1 (takeR us).2 k = (findK us k).map Ru.v := by
  suffices z : ∀ (n : Nat) (us : List Ru), us.length = n → (takeR us).1.length = (takeR us).2.length ∧ ∀ k, valD (takeR us).1 (takeR us).2 k = (findK us k).map Ru.v from z _ us rfl
  clear us
  intro n
  induction n with
  | zero =>
    intro us h
    rw [List.length_eq_zero_iff.mp h]
    exact ⟨rfl, fun k => rfl⟩
  | succ n ih0 =>
    intro us0 h
    obtain ⟨us, u, rfl⟩ : ∃ us u, us0 = us ++ [u] := ⟨_, _, (List.dropLast_concat_getLast (by rintro rfl; cases h)).symm⟩
    obtain ⟨h1, h2⟩ := ih0 us (by simpa using h)
    rw [takeR_snoc]
    unfold tk1
    cases c : valD (takeR us).1 (takeR us).2 (ruK u) with
    | some x =>
      refine ⟨h1, fun k => ?_⟩
      show valD (takeR us).1 (takeR us).2 k = _
      rw [h2 k]
      unfold findK
      rw [List.find?_append]
      cases e : us.find? (fun u => decide (ruK u = k)) with
      | some y => rfl
      | none =>
        have ne : ruK u ≠ k := by
          rintro rfl
          rw [h2] at c
          unfold findK at c
          rw [e] at c
          cases c
        simp [ne]
    | none =>
      refine ⟨by simp [h1], fun k => ?_⟩
      show valD ((takeR us).1 ++ [ruK u]) ((takeR us).2 ++ [Ru.v u]) k = _
      rw [valD_snoc _ _ _ h1, h2 k]
      unfold findK
      rw [List.find?_append]
      cases e : us.find? (fun u => decide (ruK u = k)) with
      | some y => rfl
      | none =>
        by_cases ne : ruK u = k <;> simp [ne]
theorem findK_ok {us : List Ru} {k : List Key} {u : Ru} (h : findK us k = some u) : u ∈ us ∧ ruK u = k := by
  unfold findK at h
  exact ⟨List.mem_of_find?_eq_some h, by simpa using List.find?_some h⟩
def ruleFor (us : List Ru) (st s : Int) : Option Ru := (findK us [.inl st, .inl s]).or (findK us [.inl st, .inr "other"])
def ruleEnd' (us : List Ru) (st : Int) : Option Ru := findK us [.inl st, .inr "end"]
theorem wdK_fin {w : Wd} : wdK w = .inr "end" ↔ w = .fin := by
  cases w with
  | sign x => exact ⟨fun z => (nomatch z), fun z => (nomatch z)⟩
  | other => exact ⟨fun z => absurd z (by decide +kernel), fun z => (nomatch z)⟩
  | fin => exact ⟨fun _ => rfl, fun _ => rfl⟩
theorem ruleEnd_ok {us : List Ru} {st : Int} {u : Ru} (h : ruleEnd' us st = some u) : u ∈ us ∧ u.word = .fin := by
  obtain ⟨h1, h2⟩ := findK_ok h
  refine ⟨h1, wdK_fin.mp ?_⟩
  unfold ruK at h2
  injection h2 with _ h2
  injection h2
theorem ruleFor_ok {us : List Ru} {st s : Int} {u : Ru} (h : ruleFor us st s = some u) : u ∈ us ∧ wdFin u.word = false := by
  have key : ∀ k : Key, k ≠ .inr "end" → ∀ u, findK us [.inl st, k] = some u → u ∈ us ∧ wdFin u.word = false := fun k hk u h => by
    obtain ⟨h1, h2⟩ := findK_ok h
    refine ⟨h1, ?_⟩
    unfold ruK at h2
    injection h2 with _ h2
    injection h2 with h2
    cases e : u.word with
    | fin =>
      rw [e] at h2
      exact absurd h2.symm hk
    | sign x => rfl
    | other => rfl
  unfold ruleFor at h
  cases c : findK us [.inl st, .inl s] with
  | some y =>
    rw [c] at h
    cases h
    exact key (.inl s) (by intro z; cases z) _ c
  | none =>
    rw [c] at h
    exact key (.inr "other") (by decide +kernel) _ h
/-! ### a run -/
def lim (w : List Int) : Option (List Int) := if w.length ≤ 20000 then some w else none
def nxt (u : Ru) : Int := u.next.getD 0
def runFrom (us : List Ru) (bs : List Int) : Int → List Int → List Int → Option (List Int)
  | st, [], w => match ruleEnd' us st with
    | none => some w
    | some u => lim (w ++ outIs bs none u.items)
  | st, s :: r, w => match ruleFor us st s with
    | none => some w
    | some u => match lim (w ++ outIs bs (some s) u.items) with
      | none => none
      | some w' => runFrom us bs (nxt u) r w'
def rulesB (bs : List Int) : List Ru := (rulesOf bs.length (bs.drop 1)).1
def runR (bs row : List Int) : Option (List Int) := runFrom (rulesB bs) bs (bs.headD 0) row []
end Va

set_option maxRecDepth 100000
set_option maxHeartbeats 2000000
namespace Fd
open PySem PySem.Spec PyProof.Rows L2
/-! ### raise X(), an error class whose __init__ takes nothing -/
section
variable {X : Cx} {C fI : Addr} {k : Nat} {fd : FuncData} {ps : List Str} {sp : Sp} {x : Str} {p pos : Pos}
theorem pmk_oex0 (T0 : OexC X.K C) (i0 : PySem.W.findIn X.K (.ref C) "__init__" = some (some (.ref fI))) (t0 : PySem.W.typeIn X.K (.ref fI) = some (.type "function"))
    (F0 : FnOk X.prog X.w X.K X.mg X.base (L2.CX X.prog X.w) k fI fd ps sp) (r0 : Room (k + 1) X.A) (b0 : Binds X.K fd ps []) (p0 : Passes (L2.CX X.prog X.w) X (fun _ _ _ => False)) (g0 : Gl X x) (m0 : X.mg x = some (.ref C))
    (d0 : (x == ("__debug__" : Str)) = false := by decide) : PMk X (.Call (.Name x p) [] [] pos) (tMkO C sp [] tNil) := by
  intro pins s σ H Q I h
  obtain ⟨nm, q, N, bs, bm, sn, sub, ab, col, dd, k0, k1, k2, k3, k5, cC, hm⟩ := T0.cls
  refine wpAny_Call_Name_kw (ld_glob I g0 m0 ?_ d0)
  refine PySem.W.callWith_K0 I.kIn T0.kC ?_
  have hq := h.2
  obtain ⟨hp, g, dr, tk, os⟩ := s
  have le : hp.objs.size ≤ hp.objs.size + 1 := Nat.le_succ _
  have nw : H (hp.objs.size + 1) = none := I.hok.fresh le
  have q1 := hq (hp.objs.size + 1) nw
  have gr : ∀ b o, hp.get? b = some o → ((hp.push (PySem.W.kdv_tup [])).push (PySem.HandSPX.excO C hp.objs.size)).get? b = some o := fun b o e =>
    Heap.get?_push_of_some _ (Heap.get?_push_of_some _ e)
  have at1 : ((hp.push (PySem.W.kdv_tup [])).push (PySem.HandSPX.excO C hp.objs.size)).get? (hp.objs.size + 1) = some (PySem.HandSPX.excO C hp.objs.size) := by heap_get
  have J := I.laid (t' := tk) (a := hp.objs.size + 1) (o := exo (hp.objs.size + 1) C none) (h' := (hp.push (PySem.W.kdv_tup [])).push (PySem.HandSPX.excO C hp.objs.size)) gr le (exo_ok at1)
  have rv : Vals [V.ref (hp.objs.size + 1)] [Value.ref (hp.objs.size + 1)] := .cons rfl .nil
  have hl : [Value.ref (hp.objs.size + 1)].length = ps.length := (F0.len _ _ _ _ q1 :)
  have bb := b0 ⟨(hp.push (PySem.W.kdv_tup [])).push (PySem.HandSPX.excO C hp.objs.size), g, dr, tk, os⟩ [Value.ref (hp.objs.size + 1)] J.kIn (by rw [List.append_nil]; exact hl)
  rw [List.append_nil] at bb
  refine wpAny_call (PySem.HandSPX.call_own F.excBase_ValueError (fun Y => PySem.HandSPX.refsVE_contains Y bm hm) (I.kIn _ _ cC) (PySem.W.looks_findIn I.kIn i0) (fun self => PySem.W.bind_fn I.kIn self t0) (Nat.zero_le _)
    (codeAny_mono (F0.run _ X.stack _ _ _ _ _ _ _ (r0.make C [] []) (J.env0.make C [] []) bb rv q1) ?_))
  rintro (er | fl) s' e'
  · exact p0 pins σ _ _ er s' J e'
  · cases fl with
    | ret u =>
      obtain ⟨v, H2, os2, bare2, un2, hok2, r2, ev, d, fs, ea, ed, hd1, q2⟩ := e'
      subst ev
      obtain ⟨h2, g2, d2, t2, os'⟩ := s'
      exact ⟨r2, mk_end (raises_own T0.exC T0.tyC) I le gr un2 hok2 os2 bare2 ea ed hd1 q2⟩
    | next => exact e'.elim
    | brk => exact e'.elim
    | cont => exact e'.elim
/-- X() -/
def tRaise0 (C : Addr) : L2.St → Hp → XK → Prop := fun _ H Q => ∀ d, H d = none → Q (.ref C) (some d) (upd H d (.xd [(("value" : Str), .non)]))
theorem pmk_made0 (T : Ex X.K X.mg x C fI) (F : InitOk0 X.prog X.w X.K X.mg X.base k fI) (hr : Room (k + 1) X.A) (hx : Passes (L2.CX X.prog X.w) X (fun _ _ _ => False)) (hg : Gl X x)
    (hdb : (x == ("__debug__" : Str)) = false := by decide) : PMk X (.Call (.Name x p) [] [] pos) (tRaise0 C) := by
  obtain ⟨fd, b, F1⟩ := F.ok
  refine PMk.imp (pmk_oex0 T.o T.i F.ty F1 hr b hx hg T.g hdb) fun σ H Q h => ?_
  refine ⟨(by show 0 ≤ 1000; decide), fun a na => ⟨a, C, rfl, T.o, T.v, upd_same, fun dx nx ne => ?_⟩⟩
  have n1 : H dx = none := by
    rw [upd_ne ne] at nx
    exact nx
  refine ⟨rfl, dx, [("value", .non)], upd_same, ?_, n1, ?_⟩
  · rw [upd_ne ne, upd_same]
  · rw [upd_back na ne]
    exact h dx n1
end
end Fd
namespace Va
open PySem PySem.Spec PyProof.Rows L2 Fd
section
variable {X : Cx} {B : Base} {st : Stmt} {E : XK} {Ed : XD}
def dRaise0 (C : Addr) (Ed : XD) : DP := fun _ δ => Ed C .non δ.own
theorem v_raise0 {C : Addr} (le : LE B Ed E) (h : PS X st fun _ σ H => tRaise0 C σ H fun cls d H' => E cls d H') : PS X st (upS B (dRaise0 C Ed)) := ps_imp h fun D σ H ⟨O, δ, Dd, R, q, L⟩ => fun d nd => by
  have e3 : Ext O δ.own H O δ.own (upd H d (.xd [(("value" : Str), .non)])) := ext_new nd
  exact le C .non δ.own O d .non _ q (R.bs.trans e3) (store_new R.st nd) .non upd_same
/-- what is never reached -/
theorem v_never : PS X st (upS B fun _ _ => False) := ⟨fun _ _ _ _ _ _ ⟨_, _, _, _, h, _⟩ => h.elim⟩
/-- a try whose body raises nothing -/
theorem v_tryNo {body : List Stmt} {h₀ : ExceptHandler} {hs : List ExceptHandler} {pos : Pos} {t : DP} (hb : PSs X.nox body (upS B t)) : PS X (.Try body (h₀ :: hs) [] [] pos) (upS B t) := ps_try_thru0 hb
end
end Va

set_option maxRecDepth 100000
set_option maxHeartbeats 2000000
namespace Va
open PySem PySem.Spec PyProof.Rows L2 Fd

theorem pk_core {S : Own} {j : Nat} {a : Addr} {ob : Ob} {ks : List (List Key)} {vs : List D} (e : S[j]? = some (some (.pin a ob))) (c : core ob = .dct ks vs) : Pk S (.own j) (.dct ks vs) := by
  have z : ∀ ob : Ob, obD ob = obD (core ob) := by
    intro ob
    induction ob with
    | pin b ob ih => exact ih
    | _ => rfl
  exact ⟨_, e, by rw [z]; show _ = obD (core ob); rw [c]; rfl⟩
theorem cutQ {P : DS → Prop} {δ δ' : DS} (e : δ = δ') (h : P δ') : P δ := by
  rw [e]
  exact h
/-- a field that is there gets another value -/
theorem put2_set {α : Type} {f : Str} {a : α} : ∀ {ns : List Str} {xs : List α} (i : Nat), ns[i]? = some f → (∀ j, j < i → ns[j]? ≠ some f) → ns.length = xs.length → put2 f a ns xs = (ns, xs.set i a)
  | [], _, _, h, _, _ => by simp at h
  | n :: ns, [], _, _, _, l => by simp at l
  | n :: ns, x :: xs, 0, h, _, _ => by
    have e : n = f := by simpa using h
    unfold put2
    rw [if_pos e]
    rfl
  | n :: ns, x :: xs, i + 1, h, hn, l => by
    have ne : n ≠ f := fun z => hn 0 (Nat.succ_pos i) (by rw [z]; rfl)
    unfold put2
    rw [if_neg ne, put2_set i (by simpa using h) (fun j hj z => hn (j + 1) (by omega) (by simpa using z)) (by simpa using l)]
    rfl
def sdAtEnd (C : Addr) : SpD := fun ws S Q _ => ∃ (w : W) (s : Int) (ns : List Str) (ds : List D) (a : Addr) (j : Nat) (ob : Ob) (ks : List (List Key)) (vs : List D), ws = [w, .dat (.int s)] ∧ Pk S w (.ins C ns ds) ∧ fldD "taken" ns ds = some (.con (.ref a)) ∧ S[j]? = some (some (Ob.pin a ob)) ∧ core ob = .dct ks vs ∧ Q (.dat ((valD ks vs [.inl s, .inr "end"]).getD .non)) S
def sdRuleFor (C : Addr) : SpD := fun ws S Q _ => ∃ (w : W) (s g : Int) (ns : List Str) (ds : List D) (a : Addr) (j : Nat) (ob : Ob) (ks : List (List Key)) (vs : List D), ws = [w, .dat (.int s), .dat (.int g)] ∧ Pk S w (.ins C ns ds) ∧ fldD "taken" ns ds = some (.con (.ref a)) ∧ S[j]? = some (some (Ob.pin a ob)) ∧ core ob = .dct ks vs ∧
  Q (.dat (((valD ks vs [.inl s, .inl g]).orElse fun _ => valD ks vs [.inl s, .inr "other"]).getD .non)) S
def progNs : List Str := ["body", "start", "taken"]
def progDs (bs : List Int) (a : Addr) : List D := [iv bs, .int (bs.headD 0), .con (.ref a)]
def sdInitP (C : Addr) : SpD := fun ws S Q _ => ∃ (k : Nat) (f n : Int) (bs : List Int), ws = [.own k, .dat (iv (thg f n bs))] ∧ (0 ≤ f ∧ f < 5) ∧ OkS n ∧ Sgn bs ∧ bs.length ≤ 900000 ∧ S[k]? = some (some (Ob.ins C [] [])) ∧
  ∀ (S' : Own) (j : Nat) (a : Addr), S.length ≤ j → (∀ i, i < S.length → i ≠ k → S'[i]? = S[i]?) → S.length ≤ S'.length → S'[k]? = some (some (Ob.ins C progNs (progDs bs a))) →
    S'[j]? = some (some (Ob.pin a (.dct (takeR (rulesB bs)).1 (takeR (rulesB bs)).2))) → Q (.dat .non) S'

/-! ### a machine -/
structure MS where
  at_ : Nat
  stand : Int
  over : Bool
  written : List Int
  past : List (Nat × Int × Nat)
def pastD (p : Nat × Int × Nat) : D := .tup [.int (p.1 : Nat), .int p.2.1, .int (p.2.2 : Nat)]
/-- where it stands in the store: the machine, its program, the program's dict, what is written, what is past -/
structure Ix where
  k : Nat
  p : Nat
  t : Nat
  w : Nat
  l : Nat
def machNs : List Str := ["_thing", "_row", "_program", "_at", "_stand", "_over", "_written", "_past"]
def machDs (th row : List Int) (aP aW aL : Addr) (m : MS) : List D := [iv th, iv row, .con (.ref aP), .int (m.at_ : Nat), .int m.stand, .bl m.over, .con (.ref aW), .con (.ref aL)]
structure MachAs (CM CP : Addr) (S : Own) (I : Ix) (th bs row : List Int) (m : MS) (aP aT aW aL : Addr) : Prop where
  wl : I.w ≠ I.l
  ek : S[I.k]? = some (some (.ins CM machNs (machDs th row aP aW aL m)))
  ep : S[I.p]? = some (some (.pin aP (.ins CP progNs (progDs bs aT))))
  et : S[I.t]? = some (some (.pin aT (.dct (takeR (rulesB bs)).1 (takeR (rulesB bs)).2)))
  ew : S[I.w]? = some (some (.pin aW (.lst (m.written.map D.int))))
  el : S[I.l]? = some (some (.pin aL (.lst (m.past.map pastD))))
def MachAt (CM CP : Addr) (S : Own) (I : Ix) (th bs row : List Int) (m : MS) : Prop := ∃ aP aT aW aL, MachAs CM CP S I th bs row m aP aT aW aL
theorem ne_get {S : Own} {i j : Nat} {x y : Option Ob} (h1 : S[i]? = some x) (h2 : S[j]? = some y) (n : x ≠ y) : i ≠ j := by
  rintro rfl
  rw [h1] at h2
  exact n (Option.some.inj h2)
section
variable {CM CP : Addr} {S S' : Own} {I : Ix} {th bs row : List Int} {m : MS} {aP aT aW aL : Addr}
theorem MachAs.kp (h : MachAs CM CP S I th bs row m aP aT aW aL) : I.k ≠ I.p := ne_get h.ek h.ep (fun z => nomatch z)
theorem MachAs.kt (h : MachAs CM CP S I th bs row m aP aT aW aL) : I.k ≠ I.t := ne_get h.ek h.et (fun z => nomatch z)
theorem MachAs.kw (h : MachAs CM CP S I th bs row m aP aT aW aL) : I.k ≠ I.w := ne_get h.ek h.ew (fun z => nomatch z)
theorem MachAs.kl (h : MachAs CM CP S I th bs row m aP aT aW aL) : I.k ≠ I.l := ne_get h.ek h.el (fun z => nomatch z)
theorem MachAs.pw (h : MachAs CM CP S I th bs row m aP aT aW aL) : I.p ≠ I.w := ne_get h.ep h.ew (fun z => nomatch z)
theorem MachAs.pl (h : MachAs CM CP S I th bs row m aP aT aW aL) : I.p ≠ I.l := ne_get h.ep h.el (fun z => nomatch z)
theorem MachAs.tw (h : MachAs CM CP S I th bs row m aP aT aW aL) : I.t ≠ I.w := ne_get h.et h.ew (fun z => nomatch z)
theorem MachAs.tl (h : MachAs CM CP S I th bs row m aP aT aW aL) : I.t ≠ I.l := ne_get h.et h.el (fun z => nomatch z)
theorem MachAs.push (h : MachAs CM CP S I th bs row m aP aT aW aL) {x : Option Ob} : MachAs CM CP (S ++ [x]) I th bs row m aP aT aW aL := ⟨h.wl, get_push h.ek, get_push h.ep, get_push h.et, get_push h.ew, get_push h.el⟩
theorem MachAs.lt (h : MachAs CM CP S I th bs row m aP aT aW aL) : I.k < S.length ∧ I.p < S.length ∧ I.t < S.length ∧ I.w < S.length ∧ I.l < S.length :=
  ⟨(List.getElem?_eq_some_iff.mp h.ek).1, (List.getElem?_eq_some_iff.mp h.ep).1, (List.getElem?_eq_some_iff.mp h.et).1, (List.getElem?_eq_some_iff.mp h.ew).1, (List.getElem?_eq_some_iff.mp h.el).1⟩
/-- another thing of the store changes -/
theorem MachAs.off (h : MachAs CM CP S I th bs row m aP aT aW aL) {j : Nat} {x : Option Ob} (hk : j ≠ I.k) (hp : j ≠ I.p) (ht : j ≠ I.t) (hw : j ≠ I.w) (hl : j ≠ I.l) : MachAs CM CP (S.set j x) I th bs row m aP aT aW aL :=
  ⟨h.wl, get_set h.ek hk, get_set h.ep hp, get_set h.et ht, get_set h.ew hw, get_set h.el hl⟩
theorem MachAs.setk (h : MachAs CM CP S I th bs row m aP aT aW aL) (a' : Nat) (s' : Int) (o' : Bool) : MachAs CM CP (S.set I.k (some (.ins CM machNs (machDs th row aP aW aL ⟨a', s', o', m.written, m.past⟩)))) I th bs row ⟨a', s', o', m.written, m.past⟩ aP aT aW aL :=
  ⟨h.wl, set_get h.ek, get_set h.ep h.kp, get_set h.et h.kt, get_set h.ew h.kw, get_set h.el h.kl⟩
theorem MachAs.setw (h : MachAs CM CP S I th bs row m aP aT aW aL) (w' : List Int) : MachAs CM CP (S.set I.w (some (.pin aW (.lst (w'.map D.int))))) I th bs row { m with written := w' } aP aT aW aL :=
  ⟨h.wl, get_set h.ek (Ne.symm h.kw), get_set h.ep (Ne.symm h.pw), get_set h.et (Ne.symm h.tw), set_get h.ew, get_set h.el h.wl⟩
theorem MachAs.setl (h : MachAs CM CP S I th bs row m aP aT aW aL) (p' : List (Nat × Int × Nat)) : MachAs CM CP (S.set I.l (some (.pin aL (.lst (p'.map pastD))))) I th bs row { m with past := p' } aP aT aW aL :=
  ⟨h.wl, get_set h.ek (Ne.symm h.kl), get_set h.ep (Ne.symm h.pl), get_set h.et (Ne.symm h.tl), get_set h.ew (Ne.symm h.wl), set_get h.el⟩
end
theorem machNs_at (i : Nat) (f : Str) {α : Type} (a : α) {xs : List α} (h : machNs[i]? = some f := by decide +kernel) (h2 : ∀ j, j < i → machNs[j]? ≠ some f := by decide +kernel) (l : xs.length = 8) : put2 f a machNs xs = (machNs, xs.set i a) := put2_set i h h2 (by rw [l]; rfl)
/-- what stays beside a machine -/
structure Fr (S S' : Own) (I : Ix) : Prop where
  le : S.length ≤ S'.length
  kp : ∀ i, i < S.length → i ≠ I.k → i ≠ I.w → i ≠ I.l → S'[i]? = S[i]?
theorem Fr.refl {S : Own} {I : Ix} : Fr S S I := ⟨Nat.le_refl _, fun _ _ _ _ _ => rfl⟩
theorem Fr.trans {S S1 S2 : Own} {I : Ix} (a : Fr S S1 I) (b : Fr S1 S2 I) : Fr S S2 I := ⟨Nat.le_trans a.le b.le, fun i h h1 h2 h3 => (b.kp i (Nat.lt_of_lt_of_le h a.le) h1 h2 h3).trans (a.kp i h h1 h2 h3)⟩
theorem Fr.push {S S1 : Own} {I : Ix} {x : Option Ob} (a : Fr S S1 I) : Fr S (S1 ++ [x]) I := a.trans ⟨by simp, fun i h _ _ _ => List.getElem?_append_left h⟩
theorem Fr.set {S S1 : Own} {I : Ix} {x : Option Ob} {j : Nat} (a : Fr S S1 I) (h : j = I.k ∨ j = I.w ∨ j = I.l ∨ S1.length ≤ j) : Fr S (S1.set j x) I := a.trans ⟨by simp, fun i hi h1 h2 h3 => List.getElem?_set_ne (by omega)⟩
/-! pure steps -/
def readM (us : List Ru) (bs : List Int) (m : MS) (s : Int) : Option MS := match ruleFor us m.stand s with
  | none => some { m with over := true }
  | some u => (lim (m.written ++ outIs bs (some s) u.items)).map fun w => { m with at_ := m.at_ + 1, stand := nxt u, written := w }
def endM (us : List Ru) (bs : List Int) (m : MS) : Option MS := match ruleEnd' us m.stand with
  | none => some { m with over := true }
  | some u => (lim (m.written ++ outIs bs none u.items)).map fun w => { m with written := w, over := true }
def stepM (us : List Ru) (bs row : List Int) (m : MS) : Option MS := (match row[m.at_]? with
  | some s => readM us bs m s
  | none => endM us bs m).map fun (m' : MS) => { m' with past := m.past ++ [(m.at_, m.stand, m.written.length)] }
def goM (us : List Ru) (bs row : List Int) : Nat → MS → Option MS
  | 0, m => some m
  | n + 1, m => if m.over then some m else (stepM us bs row m).bind (goM us bs row n)
def remM (row : List Int) (m : MS) : Nat := if m.over then 0 else row.length + 1 - m.at_
def runM (us : List Ru) (bs row : List Int) (m : MS) : Option MS := goM us bs row (remM row m) m
/-- what a machine holds -/
structure MOk (bs row : List Int) (m : MS) : Prop where
  bl : bs.length ≤ 900000
  rl : row.length ≤ 800000
  at_ : m.at_ ≤ row.length
  wr : m.written.length ≤ 20000
  pa : m.past.length ≤ m.at_ + if m.over then 1 else 0
  bn : rulesB bs ≠ [] → bs ≠ []
  ok : RusOk (rulesB bs)
theorem lim_some {w w' : List Int} (h : lim w = some w') : w' = w ∧ w.length ≤ 20000 := by
  unfold lim at h
  split at h
  · cases h
    exact ⟨rfl, by assumption⟩
  · cases h
theorem step_ok {us : List Ru} {bs row : List Int} {m m' : MS} (h : stepM us bs row m = some m') (ok : MOk bs row m) (o : m.over = false) : MOk bs row m' ∧ remM row m' < remM row m := by
  unfold stepM at h
  obtain ⟨m1, h1, rfl⟩ := Option.map_eq_some_iff.mp h
  have hp := ok.pa
  have ha := ok.at_
  rw [o] at hp
  simp only [Bool.false_eq_true, if_false] at hp
  have r0 : remM row m = row.length + 1 - m.at_ := by
    unfold remM
    rw [o]
    simp
  rw [r0]
  cases c : row[m.at_]? with
  | some s =>
    have hl : m.at_ < row.length := (List.getElem?_eq_some_iff.mp c).1
    rw [c] at h1
    have h1 : readM us bs m s = some m1 := h1
    unfold readM at h1
    split at h1
    · cases h1
      refine ⟨⟨ok.bl, ok.rl, ok.at_, ok.wr, ?_, ok.bn, ok.ok⟩, ?_⟩
      · show (m.past ++ [_]).length ≤ m.at_ + 1
        rw [List.length_append]
        show _ + 1 ≤ _
        omega
      · show 0 < _
        omega
    · obtain ⟨w, h2, rfl⟩ := Option.map_eq_some_iff.mp h1
      obtain ⟨rfl, hw⟩ := lim_some h2
      refine ⟨⟨ok.bl, ok.rl, hl, hw, ?_, ok.bn, ok.ok⟩, ?_⟩
      · show (m.past ++ [_]).length ≤ m.at_ + 1 + if m.over = true then 1 else 0
        rw [o, List.length_append]
        show _ + 1 ≤ _ + 0
        omega
      · show (if m.over = true then 0 else row.length + 1 - (m.at_ + 1)) < _
        rw [o]
        simp only [Bool.false_eq_true, if_false]
        omega
  | none =>
    rw [c] at h1
    have h1 : endM us bs m = some m1 := h1
    unfold endM at h1
    split at h1
    · cases h1
      refine ⟨⟨ok.bl, ok.rl, ok.at_, ok.wr, ?_, ok.bn, ok.ok⟩, ?_⟩
      · show (m.past ++ [_]).length ≤ m.at_ + 1
        rw [List.length_append]
        show _ + 1 ≤ _
        omega
      · show 0 < _
        omega
    · obtain ⟨w, h2, rfl⟩ := Option.map_eq_some_iff.mp h1
      obtain ⟨rfl, hw⟩ := lim_some h2
      refine ⟨⟨ok.bl, ok.rl, ok.at_, hw, ?_, ok.bn, ok.ok⟩, ?_⟩
      · show (m.past ++ [_]).length ≤ m.at_ + 1
        rw [List.length_append]
        show _ + 1 ≤ _
        omega
      · show 0 < _
        omega
theorem goM_over {us : List Ru} {bs row : List Int} {m : MS} (o : m.over = true) : ∀ n, goM us bs row n m = some m
  | 0 => rfl
  | n + 1 => by
    show (if m.over = true then some m else _) = _
    rw [if_pos o]
theorem goM_more {us : List Ru} {bs row : List Int} : ∀ (n : Nat) {m : MS}, MOk bs row m → remM row m ≤ n → goM us bs row n m = runM us bs row m
  | n, m, ok, h => by
    cases o : m.over with
    | true =>
      unfold runM
      rw [goM_over o, goM_over o]
    | false =>
      have ha := ok.at_
      have r0 : remM row m = row.length + 1 - m.at_ := by
        unfold remM
        rw [o]
        simp
      obtain ⟨k, hk⟩ : ∃ k, remM row m = k + 1 := ⟨row.length - m.at_, by omega⟩
      unfold runM
      rw [hk] at h ⊢
      cases n with
      | zero => omega
      | succ n =>
        show (if m.over = true then some m else (stepM us bs row m).bind (goM us bs row n)) = if m.over = true then some m else (stepM us bs row m).bind (goM us bs row k)
        rw [o]
        simp only [Bool.false_eq_true, if_false]
        cases c : stepM us bs row m with
        | none => rfl
        | some m' =>
          obtain ⟨ok', hr⟩ := step_ok c ok o
          show goM us bs row n m' = goM us bs row k m'
          rw [goM_more n ok' (by omega), goM_more k ok' (by omega)]
theorem runM_over {us : List Ru} {bs row : List Int} {m : MS} (o : m.over = true) : runM us bs row m = some m := goM_over o _
theorem runM_step {us : List Ru} {bs row : List Int} {m : MS} (ok : MOk bs row m) (o : m.over = false) : runM us bs row m = (stepM us bs row m).bind (runM us bs row) := by
  have ha := ok.at_
  have r0 : remM row m = row.length + 1 - m.at_ := by
    unfold remM
    rw [o]
    simp
  obtain ⟨k, hk⟩ : ∃ k, remM row m = k + 1 := ⟨row.length - m.at_, by omega⟩
  unfold runM
  rw [hk]
  show (if m.over = true then some m else (stepM us bs row m).bind (goM us bs row k)) = _
  rw [o]
  simp only [Bool.false_eq_true, if_false]
  cases c : stepM us bs row m with
  | none => rfl
  | some m' =>
    obtain ⟨ok', hr⟩ := step_ok c ok o
    exact goM_more k ok' (by omega)
/-- .. and what it tells is what the run tells -/
theorem runM_run {us : List Ru} {bs row : List Int} : ∀ (n : Nat) {m : MS}, remM row m ≤ n → MOk bs row m → m.over = false → (runM us bs row m).map MS.written = runFrom us bs m.stand (row.drop m.at_) m.written
  | n, m, hn, ok, o => by
    have ha := ok.at_
    have r0 : remM row m = row.length + 1 - m.at_ := by
      unfold remM
      rw [o]
      simp
    rw [runM_step ok o]
    cases c : row[m.at_]? with
    | none =>
      have hd : row.drop m.at_ = [] := List.drop_eq_nil_iff.mpr (List.getElem?_eq_none_iff.mp c)
      rw [hd]
      unfold runFrom stepM endM
      rw [c]
      cases e : ruleEnd' us m.stand with
      | none =>
        show Option.map MS.written (runM us bs row _) = _
        rw [runM_over rfl]
        rfl
      | some u =>
        dsimp only
        cases f : lim (m.written ++ outIs bs none u.items) with
        | none => rfl
        | some w =>
          show Option.map MS.written (runM us bs row _) = _
          rw [runM_over rfl]
          rfl
    | some s =>
      have hl : m.at_ < row.length := (List.getElem?_eq_some_iff.mp c).1
      have hd : row.drop m.at_ = s :: row.drop (m.at_ + 1) := by
        rw [List.drop_eq_getElem_cons hl]
        rw [List.getElem?_eq_getElem hl] at c
        rw [Option.some.inj c]
      have st := fun m' (h : stepM us bs row m = some m') => step_ok h ok o
      rw [hd]
      unfold runFrom
      cases e : ruleFor us m.stand s with
      | none =>
        have es : stepM us bs row m = some { m with over := true, past := m.past ++ [(m.at_, m.stand, m.written.length)] } := by
          unfold stepM readM
          rw [c]
          dsimp only
          rw [e]
          rfl
        rw [es]
        show Option.map MS.written (runM us bs row _) = _
        rw [runM_over rfl]
        rfl
      | some u =>
        dsimp only
        cases f : lim (m.written ++ outIs bs (some s) u.items) with
        | none =>
          have es : stepM us bs row m = none := by
            unfold stepM readM
            rw [c]
            dsimp only
            rw [e]
            dsimp only
            rw [f]
            rfl
          rw [es]
          rfl
        | some w =>
          have es : stepM us bs row m = some { m with at_ := m.at_ + 1, stand := nxt u, written := w, past := m.past ++ [(m.at_, m.stand, m.written.length)] } := by
            unfold stepM readM
            rw [c]
            dsimp only
            rw [e]
            dsimp only
            rw [f]
            rfl
          obtain ⟨ok', hr⟩ := st _ es
          rw [es]
          cases n with
          | zero => omega
          | succ n => exact runM_run n (by omega) ok' o
end Va
namespace Va
open PySem PySem.Spec PyProof.Rows L2 Fd
theorem readM_past {us : List Ru} {bs : List Int} {m m1 : MS} {s : Int} (h : readM us bs m s = some m1) : m1.past = m.past := by
  unfold readM at h
  split at h
  · cases h
    rfl
  · obtain ⟨w, _, rfl⟩ := Option.map_eq_some_iff.mp h
    rfl
theorem endM_past {us : List Ru} {bs : List Int} {m m1 : MS} (h : endM us bs m = some m1) : m1.past = m.past := by
  unfold endM at h
  split at h
  · cases h
    rfl
  · obtain ⟨w, _, rfl⟩ := Option.map_eq_some_iff.mp h
    rfl
end Va

set_option maxRecDepth 100000
set_option maxHeartbeats 2000000
namespace Va
open PySem PySem.Spec PyProof.Rows L2 Fd
/-! ### what the defs of programs.py and running.py promise -/
def sdOwnRow : SpD := fun ws S Q _ => ∃ (bs : List Int) (j k : Int), ws = [.dat (iv bs), .dat (.int j), .dat (.int k)] ∧ bs.length ≤ 900000 ∧ Q (.dat (iv (shiftI k (j :: bs.drop 1)))) S
def sdSize : SpD := fun ws S Q _ => ∃ (u : Ru) (bs : List Int), ws = [.dat (Ru.v u), .dat (iv bs)] ∧ u.items.length ≤ 99 ∧ Q (.dat (.int (szIs bs.length (wdFin u.word) u.items : Nat))) S
def sdSignsR : SpD := fun ws S Q _ => ∃ (u : Ru) (sg : Option Int) (bs : List Int), ws = [.dat (Ru.v u), .dat (sgV sg), .dat (iv bs)] ∧ u.items.length ≤ 99 ∧ bs.length ≤ 900000 ∧ (outIs bs sg u.items).length ≤ 20000 ∧ Q (.own S.length) (S ++ [some (.lst ((outIs bs sg u.items).map D.int))])
def ruO : Option Ru → D
  | some u => Ru.v u
  | none => .non
@[irreducible] def sdWrite (CM CP CL : Addr) : SpD := fun ws S Q E => ∃ (I : Ix) (th bs row : List Int) (m : MS) (sg : Option Int) (ru : Option Ru), ws = [.own I.k, .dat (ruO ru), .dat (sgV sg)] ∧ MachAt CM CP S I th bs row m ∧ bs.length ≤ 900000 ∧ m.written.length ≤ 20000 ∧
  (∀ u, ru = some u → u.items.length ≤ 99 ∧ wdFin u.word = sg.isNone ∧ bs ≠ []) ∧ (ru = none → Q (.dat .non) S) ∧
  ∀ u, ru = some u → (∀ w' S', lim (m.written ++ outIs bs sg u.items) = some w' → Fr S S' I → MachAt CM CP S' I th bs row { m with written := w' } → Q (.dat .non) S') ∧ (lim (m.written ++ outIs bs sg u.items) = none → E CL .non S)
@[irreducible] def sdRead (CM CP CL : Addr) : SpD := fun ws S Q E => ∃ (I : Ix) (th bs row : List Int) (m : MS) (s : Int), ws = [.own I.k, .dat (.int s)] ∧ MachAt CM CP S I th bs row m ∧ MOk bs row m ∧
  (∀ m' S', readM (rulesB bs) bs m s = some m' → Fr S S' I → MachAt CM CP S' I th bs row m' → Q (.dat .non) S') ∧ (readM (rulesB bs) bs m s = none → E CL .non S)
@[irreducible] def sdStep (CM CP CL CF : Addr) : SpD := fun ws S Q E => ∃ (I : Ix) (th bs row : List Int) (m : MS), ws = [.own I.k] ∧ MachAt CM CP S I th bs row m ∧ MOk bs row m ∧ (m.over = true → E CF .non S) ∧
  (m.over = false → (∀ m' S', stepM (rulesB bs) bs row m = some m' → Fr S S' I → MachAt CM CP S' I th bs row m' → Q (.dat .non) S') ∧ (stepM (rulesB bs) bs row m = none → E CL .non S))
/-- go, where it is not too long -/
@[irreducible] def sdGo (CM CP : Addr) : SpD := fun ws S Q E => ∃ (I : Ix) (th bs row : List Int) (m m' : MS), ws = [.own I.k] ∧ MachAt CM CP S I th bs row m ∧ MOk bs row m ∧ runM (rulesB bs) bs row m = some m' ∧
  ∀ S', Fr S S' I → MachAt CM CP S' I th bs row m' → Q (.dat (iv m'.written)) S'
def ms0 (bs : List Int) : MS := ⟨0, bs.headD 0, false, [], []⟩
/-- Machine(thing, row) -/
@[irreducible] def sdInitM (CM CP CT CR : Addr) : SpD := fun ws S Q E => ∃ (k : Nat) (t r : D), ws = [.own k, .dat t, .dat r] ∧ puW t = true ∧ puW r = true ∧ S[k]? = some (some (Ob.ins CM [] [])) ∧
  (dThing (py t) = false → E CT t S) ∧ (dThing (py t) = true → dRow (py r) = false → E CR r S) ∧
  (dThing (py t) = true → dRow (py r) = true → ∃ (f n : Int) (bs row : List Int) (b c : Bool), t = sq b ((thg f n bs).map D.int) ∧ r = sq c (row.map D.int) ∧ (0 ≤ f ∧ f < 5) ∧ OkS n ∧ Sgn bs ∧ bs.length ≤ 900000 ∧ Sgn row ∧ row.length ≤ 800000 ∧
    ∀ (S' : Own) (I : Ix), I.k = k → S.length ≤ I.w → S.length ≤ I.l → S.length ≤ S'.length → (∀ i, i < S.length → i ≠ k → S'[i]? = S[i]?) → MachAt CM CP S' I (thg f n bs) bs row (ms0 bs) → Q (.dat .non) S')
/-- run(thing, row), where it is not too long -/
@[irreducible] def sdRun (CT CR : Addr) : SpD := fun ws S Q E => ∃ (t r : D), ws = [.dat t, .dat r] ∧ puW t = true ∧ puW r = true ∧
  (dThing (py t) = false → E CT t S) ∧ (dThing (py t) = true → dRow (py r) = false → E CR r S) ∧
  (dThing (py t) = true → dRow (py r) = true → ∃ (f n : Int) (bs row out : List Int) (b c : Bool), t = sq b ((thg f n bs).map D.int) ∧ r = sq c (row.map D.int) ∧ (0 ≤ f ∧ f < 5) ∧ OkS n ∧ Sgn bs ∧ bs.length ≤ 900000 ∧ Sgn row ∧ row.length ≤ 800000 ∧
    runR bs row = some out ∧ Q (.dat (iv out)) S)
/-- a property that tells a field -/
def sdFld (C : Addr) (f : Str) : SpD := fun ws S Q _ => ∃ (w : W) (ns : List Str) (ds : List D) (d : D), ws = [w] ∧ Pk S w (.ins C ns ds) ∧ fldD f ns ds = some d ∧ Q (.dat d) S
theorem MOk.ms0 {bs row : List Int} (hs : Sgn bs) (hb : bs.length ≤ 900000) (hr : row.length ≤ 800000) : MOk bs row (ms0 bs) := by
  refine ⟨hb, hr, Nat.zero_le _, Nat.zero_le _, Nat.zero_le _, ?_, (rulesOf_ok (n := bs.length) (r := bs.drop 1) (Sgn.suf hs (List.drop_suffix _ _))).1⟩
  rintro h rfl
  exact h rfl
/-! targets: fields of objects that may be pinned -/
section
variable {X : Cx} {B : Base} {o : Expr} {pos : Pos} {C : Addr} {f : Str} {ta : DE}
theorem vg_fldR (hc : Cls X.K C) (hn : NoAttr X.K C f) (ho : PE X o (upE B ta)) : PG X (.Attribute o f pos) (upG B (dgFldR C f ta)) := pg_imp (pg_fld ho) (up_gfldR hc hn)
end
/-! ### steps of the walk -/
section
variable {w : W} {δ : DS} {Q : W → DS → Prop}
@[irreducible] def rdIxI : R2d := rdIx
theorem rdIxI_eq : rdIxI = rdIx := by unfold rdIxI; rfl
@[irreducible] def rdLenI : RCd := rdLen
theorem rdLenI_eq : rdLenI = rdLen := by unfold rdLenI; rfl
theorem ixT {ds : List D} {d : D} {i : Int} (h : atI ds i = some d) (q : Q (.dat d) δ) : rdIxI (.dat (.tup ds)) (.dat (.int i)) δ Q := by rw [rdIxI_eq]; exact ⟨_, rfl, .inl ⟨ds, d, .inr rfl, h, q⟩⟩
theorem ixL {ds : List D} {d : D} {i : Int} (h : atI ds i = some d) (q : Q (.dat d) δ) : rdIxI (.dat (.lst ds)) (.dat (.int i)) δ Q := by rw [rdIxI_eq]; exact ⟨_, rfl, .inl ⟨ds, d, .inl rfl, h, q⟩⟩
theorem ixO {k : Nat} {ds : List D} {d : D} {i : Int} (e : δ.own[k]? = some (some (.lst ds))) (h : atI ds i = some d) (q : Q (.dat d) δ) : rdIxI (.own k) (.dat (.int i)) δ Q := by rw [rdIxI_eq]; exact ⟨_, rfl, .inl ⟨ds, d, .inl ⟨_, e, rfl⟩, h, q⟩⟩
theorem lenT {ds : List D} (q : Q (.dat (.int (ds.length : Nat))) δ) : rdLenI [.dat (.tup ds)] δ Q := by rw [rdLenI_eq]; exact ⟨_, _, rfl, .inl ⟨ds, .inr rfl, rfl⟩, q⟩
theorem lenL {ds : List D} (q : Q (.dat (.int (ds.length : Nat))) δ) : rdLenI [.dat (.lst ds)] δ Q := by rw [rdLenI_eq]; exact ⟨_, _, rfl, .inl ⟨ds, .inl rfl, rfl⟩, q⟩
theorem obD_core : ∀ ob : Ob, obD ob = obD (core ob)
  | .lst _ => rfl
  | .ins _ _ _ => rfl
  | .dck _ _ => rfl
  | .dct _ _ => rfl
  | .pin _ ob => obD_core ob
theorem lenO {k : Nat} {ob : Ob} {ds : List D} (e : δ.own[k]? = some (some ob)) (c : core ob = .lst ds) (q : Q (.dat (.int (ds.length : Nat))) δ) : rdLenI [.own k] δ Q := by rw [rdLenI_eq]; exact ⟨_, _, rfl, .inl ⟨ds, .inl ⟨_, e, by rw [obD_core, c]; rfl⟩, rfl⟩, q⟩
theorem up_lenI {K : PySem.W.Frag} : UpC (fun xs H Q => ∃ x n, xs = [x] ∧ LenV K x H n ∧ Q (.int (n : Nat)) H) rdLenI := by rw [rdLenI_eq]; exact up_len
theorem v_ixI {X : Cx} {B : Base} {a b : Expr} {pos : Pos} {ta tb : DE} (ha : PE X a (upE B ta)) (hb : PE X b (upE B tb)) (hs : PlainIx b := by exact (fun _ _ => rfl)) : PE X (.Subscript a b pos) (upE B (d2 rdIxI ta tb)) := by rw [rdIxI_eq]; exact v_ix ha hb hs
theorem pkI {S : Own} {k : Nat} {ob : Ob} {C : Addr} {ns : List Str} {ds : List D} (e : S[k]? = some (some ob)) (c : core ob = .ins C ns ds) : Pk S (.own k) (.ins C ns ds) := ⟨_, e, by rw [obD_core, c]; rfl⟩
theorem pkL {S : Own} {k : Nat} {ob : Ob} {ds : List D} (e : S[k]? = some (some ob)) (c : core ob = .lst ds) : Pk S (.own k) (.lst ds) := ⟨_, e, by rw [obD_core, c]; rfl⟩
theorem pkT {S : Own} {k : Nat} {ob : Ob} {ks : List (List Key)} {ds : List D} (e : S[k]? = some (some ob)) (c : core ob = .dct ks ds) : Pk S (.own k) (.dct ks ds) := ⟨_, e, by rw [obD_core, c]; rfl⟩
theorem rule_for_eq (us : List Ru) (st s : Int) : ((((valD (takeR us).1 (takeR us).2 [.inl st, .inl s]).orElse fun _ => valD (takeR us).1 (takeR us).2 [.inl st, .inr "other"]).getD .non) : D) = ruO (ruleFor us st s) := by
  rw [(takeR_ok us).2, (takeR_ok us).2]
  unfold ruleFor
  cases findK us [.inl st, .inl s] with
  | some u => rfl
  | none =>
    cases findK us [.inl st, .inr "other"] with
    | some u => rfl
    | none => rfl
theorem rule_end_eq (us : List Ru) (st : Int) : (((valD (takeR us).1 (takeR us).2 [.inl st, .inr "end"]).getD .non) : D) = ruO (ruleEnd' us st) := by
  rw [(takeR_ok us).2]
  unfold ruleEnd'
  cases findK us [.inl st, .inr "end"] with
  | some u => rfl
  | none => rfl
theorem next_ok {u : Ru} (h : RuOk u) (f : wdFin u.word = false) : nextV u.next = .int (nxt u) := by
  obtain ⟨s, wd, its, nx⟩ := u
  have z := h.nx
  cases nx with
  | some n => rfl
  | none => cases wd <;> first | exact z.elim | (cases f)
theorem m1 (a : D) : put2 "_thing" a [] [] = ((["_thing"] : List Str), [a]) := rfl
theorem m2 (a b : D) : put2 "_row" b (["_thing"] : List Str) [a] = ((["_thing", "_row"] : List Str), [a, b]) := put2_new (by decide +kernel) rfl
theorem m3 (a b c : D) : put2 "_program" c (["_thing", "_row"] : List Str) [a, b] = ((["_thing", "_row", "_program"] : List Str), [a, b, c]) := put2_new (by decide +kernel) rfl
theorem m4 (a b c d : D) : put2 "_at" d (["_thing", "_row", "_program"] : List Str) [a, b, c] = ((["_thing", "_row", "_program", "_at"] : List Str), [a, b, c, d]) := put2_new (by decide +kernel) rfl
theorem m5 (a b c d e : D) : put2 "_stand" e (["_thing", "_row", "_program", "_at"] : List Str) [a, b, c, d] = ((["_thing", "_row", "_program", "_at", "_stand"] : List Str), [a, b, c, d, e]) := put2_new (by decide +kernel) rfl
theorem m6 (a b c d e f : D) : put2 "_over" f (["_thing", "_row", "_program", "_at", "_stand"] : List Str) [a, b, c, d, e] = ((["_thing", "_row", "_program", "_at", "_stand", "_over"] : List Str), [a, b, c, d, e, f]) := put2_new (by decide +kernel) rfl
theorem m7 (a b c d e f g : D) : put2 "_written" g (["_thing", "_row", "_program", "_at", "_stand", "_over"] : List Str) [a, b, c, d, e, f] = ((["_thing", "_row", "_program", "_at", "_stand", "_over", "_written"] : List Str), [a, b, c, d, e, f, g]) := put2_new (by decide +kernel) rfl
theorem m8 (a b c d e f g h : D) : put2 "_past" h (["_thing", "_row", "_program", "_at", "_stand", "_over", "_written"] : List Str) [a, b, c, d, e, f, g] = (machNs, [a, b, c, d, e, f, g, h]) := put2_new (by decide +kernel) rfl
theorem f_at (th row : List Int) (aP aW aL : Addr) (m : MS) (n : Nat) : put2 "_at" (.int (n : Nat)) machNs (machDs th row aP aW aL m) = (machNs, machDs th row aP aW aL ⟨n, m.stand, m.over, m.written, m.past⟩) := machNs_at 3 "_at" _ (l := rfl)
theorem f_at1 (th row : List Int) (aP aW aL : Addr) (m : MS) : put2 "_at" (.int ((m.at_ : Nat) + 1)) machNs (machDs th row aP aW aL m) = (machNs, machDs th row aP aW aL ⟨m.at_ + 1, m.stand, m.over, m.written, m.past⟩) := f_at th row aP aW aL m (m.at_ + 1)
theorem f_stand (th row : List Int) (aP aW aL : Addr) (m : MS) (n : Int) : put2 "_stand" (.int n) machNs (machDs th row aP aW aL m) = (machNs, machDs th row aP aW aL ⟨m.at_, n, m.over, m.written, m.past⟩) := machNs_at 4 "_stand" _ (l := rfl)
theorem f_over (th row : List Int) (aP aW aL : Addr) (m : MS) (n : Bool) : put2 "_over" (.bl n) machNs (machDs th row aP aW aL m) = (machNs, machDs th row aP aW aL ⟨m.at_, m.stand, n, m.written, m.past⟩) := machNs_at 5 "_over" _ (l := rfl)
theorem toDd {d : D} {Qd : D → DS → Prop} (h : Qd d δ) : toD (.dat d) δ Qd := h
theorem pkC {S : Own} {k : Nat} {ob : Ob} (e : S[k]? = some (some ob)) : Pk S (.own k) (obD (core ob)) := ⟨_, e, (obD_core ob).symm⟩
end
end Va
namespace Va
theorem sz {n : Nat} (h : n ≤ 900000) : n ≤ PySem.sizeLine := Nat.le_trans h (by decide)
theorem szl {n : Nat} (h : n ≤ 900000) : n < PySem.sizeLine := Nat.lt_of_le_of_lt h (by decide)
end Va
namespace Va
open PySem PySem.Spec PyProof.Rows L2 Fd
section
variable {X : Cx} {B : Base} {e : Expr} {C : Addr} {m : Str} {ta : DE} {sd : SpD} {E : XK} {Ed : XD} {W : WX} {Wd : WD}
/-- a method's call without arguments -/
theorem v_meth0 (le : LE B Ed E) (h : PE X e (tMeth C m (lift sd) [] E (upE B ta) tNil)) : PE X e (upE B (dMeth C m sd Ed ta dNil)) := pe_imp h fun σ H Q ⟨O, δ, Qd, R, h, L⟩ =>
  ⟨O, δ, _, R, h, fun w δ1 O1 v H1 ⟨ns, ds, pk, nm, q⟩ e1 R1 r1 => by
    obtain ⟨a, dx, xs, rfl, eh, _, hl, l⟩ := pk_vw R1.st r1 pk
    refine ⟨a, dx, _, rfl, eh, lookup_no nm, ?_⟩
    show lift sd [.ref a] H1 Q E
    exact ⟨O1, δ1.own, [w], _, Ed, R1.st, .cons r1 .nil, q, ⟨fun u S' O' x H' q' e' st' wr => L u _ O' x H' q' (e1.trans e') (R1.to st' e') wr⟩,
      ⟨fun C d S' O' dd v H' q' e' st' hv hd => le C d S' O' dd v H' q' (R1.bs.trans e') st' hv hd⟩⟩⟩
end
end Va
namespace Va
open PySem PySem.Spec PyProof.Rows L2 Fd
theorem take_same {S S2 : Own} (h : ∀ i, i < S.length → S2[i]? = S[i]?) : S2.take S.length = S := by
  apply List.ext_getElem?
  intro i
  rw [List.getElem?_take]
  by_cases c : i < S.length
  · rw [if_pos c]
    exact h i c
  · rw [if_neg c, List.getElem?_eq_none (by omega)]
end Va
namespace Va
open PySem PySem.Spec PyProof.Rows L2 Fd
theorem get_gr {t k : Nat} {S S' : Own} {x : Option Ob} (g : Gr t S S') (e : S[k]? = some x) (n : k ≠ t) : S'[k]? = some x := (g.keep k (List.getElem?_eq_some_iff.mp e).1 n).trans e
/-- form, number and the shifted body, as the laws write a thing -/
def sdLThing : SpD := fun ws S Q _ => ∃ (f n : Int) (b : Bool) (bs : List Int), ws = [.dat (.int f), .dat (.int n), .dat (sq b (bs.map D.int))] ∧ (0 ≤ f ∧ f < 5) ∧ bs.length ≤ 100000 ∧ Q (.own S.length) (S ++ [some (.lst ((thg f n bs).map D.int))])
theorem dw_d {P : Program} {w : World} {K : PySem.W.Frag} {mg : Str → Option Value} {base : Heap} {k : Nat} {x : Str} {ps : List Str} {f : PyData → Bool} (C : Fd.Pr P w K mg base k x ps (lift (sdDW f))) : Fd.Pr P w K mg base k x ps (lift (sdD f)) := by
  obtain ⟨fa, fd, g, kp, b, F⟩ := C.ex
  refine ⟨fa, fd, g, kp, b, F.imp ?_⟩
  rintro vs H Q E ⟨O, S, ws, Qd, Ed, st, rs, ⟨w, d, e, pk, z, q⟩, L, LE⟩
  exact ⟨O, S, ws, Qd, Ed, st, rs, ⟨w, d, e, pk, puW_of d z, q⟩, L, LE⟩
end Va
namespace Va
open PySem PySem.Spec PyProof.Rows L2 Fd
@[irreducible] def rdIntI : RCd := rdInt
theorem rdIntI_eq : rdIntI = rdInt := by unfold rdIntI; rfl
theorem up_intI : UpC (fun xs H Q => (∃ i, xs = [.int i] ∧ Q (.int i) H) ∨ ∃ k : Bool, xs = [.bl k] ∧ Q (.int (if k then 1 else 0)) H) rdIntI := by rw [rdIntI_eq]; exact up_int
theorem intI {i : Int} {δ : DS} {Q : W → DS → Prop} (q : Q (.dat (.int i)) δ) : rdIntI [.dat (.int i)] δ Q := by rw [rdIntI_eq]; exact .inl ⟨i, rfl, q⟩
end Va
namespace Va
theorem dat_own {d : D} {k : Nat} : W.dat d ≠ W.own k := fun z => nomatch z
end Va

set_option maxRecDepth 100000
set_option maxHeartbeats 2000000
namespace Va
open PySem PySem.Spec PyProof.Rows L2 Fd
theorem atI_last {ds : List D} {d : D} {i : Nat} (h : ds.length = i) : atI (ds ++ [d]) (i : Int) = some d := by
  refine atI_nat ?_
  rw [List.getElem?_append_right (by omega), h, Nat.sub_self]
  rfl
/-! ### k14: bodies that write themselves -/
structure E14 where
  st : Int
  sh : Int
  p : List Int
  b : Bool
def itE (e : E14) : List Itm := if e.b then [.put e.p, .own e.st (20 * e.sh)] else [.own e.st (20 * e.sh)]
def ruE (e : E14) (i : Nat) : Ru := ⟨0, .sign i, itE e, some 0⟩
def ruEs (es : List E14) : List Ru := es.zipIdx.map fun x => ruE x.1 x.2
structure E14.Ok (e : E14) : Prop where
  st : 0 ≤ e.st ∧ e.st < 100
  sh : 0 ≤ e.sh ∧ e.sh < 5
  p : Sgn e.p
  l : e.p.length ≤ 2
  b : e.b = false → e.p = []
theorem ruEs_snoc (es : List E14) (e : E14) : ruEs (es ++ [e]) = ruEs es ++ [ruE e es.length] := by
  unfold ruEs
  rw [List.zipIdx_append, List.map_append]
  simp
theorem ruEs_len (es : List E14) : (ruEs es).length = es.length := by simp [ruEs]
theorem ruEs_get {es : List E14} {i : Nat} {e : E14} (h : es[i]? = some e) : (ruEs es)[i]? = some (ruE e i) := by
  unfold ruEs
  rw [List.getElem?_map, List.getElem?_zipIdx, h]
  simp
def stE (es : List E14) : List D := es.map fun e => D.int e.st
def shE (es : List E14) : List D := es.map fun e => D.int e.sh
def puE (es : List E14) : List D := es.map fun e => D.lst (e.p.map D.int)
end Va
namespace Va
open PySem PySem.Spec PyProof.Rows L2 Fd
theorem stE_snoc (es : List E14) (e : E14) : stE (es ++ [e]) = stE es ++ [D.int e.st] := List.map_append ..
theorem shE_snoc (es : List E14) (e : E14) : shE (es ++ [e]) = shE es ++ [D.int e.sh] := List.map_append ..
theorem puE_snoc (es : List E14) (e : E14) : puE (es ++ [e]) = puE es ++ [D.lst (e.p.map D.int)] := List.map_append ..
theorem set_last {α : Type} {l : List α} {a b : α} {n : Nat} (h : l.length = n) : (l ++ [a]).set n b = l ++ [b] := by
  rw [List.set_append_right _ _ (by omega), h, Nat.sub_self]
  rfl
def uEnd (last by_ : Int) : Ru := ⟨0, .fin, [.own last by_], none⟩
def usE (es : List E14) (last by_ : Int) : List Ru := ruEs es ++ [uEnd last by_]
theorem ruE_ok {e : E14} (h : e.Ok) {i : Nat} (hi : i < 100) : RuOk (ruE e i) := by
  have hs := h.sh
  have ho : ItOk (.own e.st (20 * e.sh)) := ⟨h.st, by omega, by omega⟩
  refine ⟨⟨Int.le_refl 0, by show (0 : Int) < 100; decide⟩, ⟨by show (0 : Int) ≤ (i : Nat); omega, by show ((i : Nat) : Int) < 100; omega⟩, fun it hit => ?_, ?_, ⟨by show (0 : Int) ≤ 0; decide, by show (0 : Int) < 100; decide⟩⟩
  · have hit : it ∈ itE e := hit
    unfold itE at hit
    split at hit
    · rcases List.mem_cons.mp hit with rfl | hit
      · exact ⟨h.p, by have := h.l; omega⟩
      · rw [List.mem_singleton.mp hit]
        exact ho
    · rw [List.mem_singleton.mp hit]
      exact ho
  · show (itE e).length ≤ 99
    unfold itE
    split
    · show 2 ≤ 99
      decide
    · show 1 ≤ 99
      decide
theorem usE_ok {es : List E14} (h : ∀ e ∈ es, e.Ok) (hl : es.length ≤ 4) {last by_ : Int} (h1 : 0 ≤ last ∧ last < 100) (h2 : 0 ≤ by_ ∧ by_ < 100) : RusOk (usE es last by_) := by
  intro u hu
  rcases List.mem_append.mp hu with hu | hu
  · unfold ruEs at hu
    obtain ⟨⟨e, i⟩, hx, rfl⟩ := List.mem_map.mp hu
    have z := List.mem_zipIdx hx
    have hi : i < es.length := by have := z.2.1; omega
    exact ruE_ok (h e (by rw [z.2.2]; exact List.getElem_mem _)) (by omega)
  · rw [List.mem_singleton.mp hu]
    exact ⟨⟨Int.le_refl 0, by show (0 : Int) < 100; decide⟩, trivial, fun it hit => by rw [List.mem_singleton.mp (show it ∈ [Itm.own last by_] from hit)]; exact ⟨h1, h2⟩, by show 1 ≤ 99; decide, trivial⟩
theorem findK_at {us : List Ru} {k : List Key} {u : Ru} (j : Nat) (h : us[j]? = some u) (hk : ruK u = k) (n : ∀ i v, i < j → us[i]? = some v → ruK v ≠ k) : findK us k = some u := by
  unfold findK
  rw [List.find?_eq_some_iff_getElem]
  obtain ⟨hj, e⟩ := List.getElem?_eq_some_iff.mp h
  refine ⟨by simpa using hk, j, hj, e, fun i hi => ?_⟩
  have z := n i us[i] hi (List.getElem?_eq_getElem (by omega))
  simpa using z
theorem findK_no {us : List Ru} {k : List Key} (n : ∀ v ∈ us, ruK v ≠ k) : findK us k = none := by
  unfold findK
  rw [List.find?_eq_none]
  intro v hv
  simpa using n v hv
theorem usE_get {es : List E14} {last by_ : Int} {i : Nat} {v : Ru} (h : (usE es last by_)[i]? = some v) : (∃ e, es[i]? = some e ∧ v = ruE e i) ∨ (i = es.length ∧ v = uEnd last by_) := by
  unfold usE at h
  by_cases c : i < es.length
  · rw [List.getElem?_append_left (by rw [ruEs_len]; exact c)] at h
    rw [ruEs_get (List.getElem?_eq_getElem c)] at h
    exact .inl ⟨_, List.getElem?_eq_getElem c, (Option.some.inj h).symm⟩
  · rw [List.getElem?_append_right (by rw [ruEs_len]; omega), ruEs_len] at h
    have z := (List.getElem?_eq_some_iff.mp h).1
    simp at z
    rw [z] at h
    exact .inr ⟨by omega, (Option.some.inj h).symm⟩
theorem usE_for {es : List E14} {last by_ : Int} {i : Nat} {e : E14} (h : es[i]? = some e) : ruleFor (usE es last by_) 0 (i : Nat) = some (ruE e i) := by
  unfold ruleFor
  rw [findK_at (k := [.inl 0, .inl ((i : Nat) : Int)]) (u := ruE e i) i (by unfold usE; rw [List.getElem?_append_left (by rw [ruEs_len]; exact (List.getElem?_eq_some_iff.mp h).1)]; exact ruEs_get h) rfl fun j v hj hv => ?_]
  · rfl
  · rcases usE_get hv with ⟨e2, _, rfl⟩ | ⟨_, rfl⟩
    · intro z
      have z : [Sum.inl 0, Sum.inl ((j : Nat) : Int)] = ([Sum.inl 0, Sum.inl ((i : Nat) : Int)] : List Key) := z
      injection z with _ z
      injection z with z
      injection z with z
      omega
    · intro z
      cases z
theorem usE_end {es : List E14} {last by_ : Int} : ruleEnd' (usE es last by_) 0 = some (uEnd last by_) := by
  unfold ruleEnd'
  refine findK_at es.length ?_ rfl fun j v hj hv => ?_
  · unfold usE
    rw [List.getElem?_append_right (by rw [ruEs_len]; exact Nat.le_refl _), ruEs_len, Nat.sub_self]
    rfl
  · rcases usE_get hv with ⟨e2, _, rfl⟩ | ⟨h, _⟩
    · intro z
      cases z
    · omega
theorem usE_none {es : List E14} {last by_ st s : Int} (h : st ≠ 0) : ruleFor (usE es last by_) st s = none := by
  have z : ∀ k : Key, findK (usE es last by_) [.inl st, k] = none := fun k => findK_no fun v hv y => by
    obtain ⟨i, hi⟩ := List.mem_iff_getElem?.mp hv
    rcases usE_get hi with ⟨e2, _, rfl⟩ | ⟨_, rfl⟩
    · injection y with y
      injection y with y
      exact h y.symm
    · injection y with y
      injection y with y
      exact h y.symm
  unfold ruleFor
  rw [z, z]
  rfl
/-- what is written for a sign -/
def outE (bs : List Int) (e : E14) : List Int := e.p ++ shiftI (20 * e.sh) (e.st :: bs.drop 1)
theorem outE_ok {bs : List Int} {e : E14} (h : e.Ok) {s : Int} {i : Nat} : outIs bs (some s) (ruE e i).items = outE bs e := by
  show outIs bs (some s) (itE e) = _
  unfold itE outE
  cases c : e.b with
  | true =>
    rw [if_pos rfl]
    unfold outIs
    simp [outIt]
  | false =>
    rw [if_neg (by decide), h.b c]
    unfold outIs
    simp [outIt]
theorem outE_len {bs : List Int} {e : E14} (h : e.Ok) (hb : bs.length ≤ 100) : (outE bs e).length ≤ 103 := by
  unfold outE shiftI
  have := h.l
  rw [List.length_append, List.length_map, List.length_cons, List.length_drop]
  omega
theorem lim_ok {w : List Int} (h : w.length ≤ 20000) : lim w = some w := if_pos h
theorem usE_run {es : List E14} {last by_ : Int} {bs : List Int} (hb : bs.length ≤ 100) (hok : ∀ e ∈ es, e.Ok) : ∀ (ks : List E14) (is : List Nat) (w : List Int), ks.length = is.length → (∀ (j : Nat) (e : E14) (i : Nat), ks[j]? = some e → is[j]? = some i → es[i]? = some e) →
    w.length + ks.length * 103 + 101 ≤ 20000 → runFrom (usE es last by_) bs 0 (is.map fun i => ((i : Nat) : Int)) w = some (w ++ (ks.map (outE bs)).flatten ++ shiftI by_ (last :: bs.drop 1))
  | [], [], w, _, _, hl => by
    show runFrom _ _ 0 [] w = _
    unfold runFrom
    rw [usE_end]
    show lim (w ++ outIs bs none [Itm.own last by_]) = _
    have z : outIs bs none [Itm.own last by_] = shiftI by_ (last :: bs.drop 1) := by simp [outIs, outIt]
    rw [z, lim_ok]
    · simp
    · unfold shiftI
      simp only [List.length_append, List.length_map, List.length_cons, List.length_drop]
      simp at hl
      omega
  | e :: ks, i :: is, w, hlen, hk, hl => by
    have he := hk 0 e i rfl rfl
    have ho := hok e (List.mem_of_getElem? he)
    have hol := outE_len (bs := bs) ho hb
    show runFrom _ _ 0 (((i : Nat) : Int) :: is.map _) w = _
    unfold runFrom
    rw [usE_for he]
    dsimp only
    rw [outE_ok ho]
    rw [List.length_cons] at hl
    rw [lim_ok (by rw [List.length_append]; omega)]
    dsimp only
    rw [show nxt (ruE e i) = 0 from rfl, usE_run hb hok ks is _ (by simpa using hlen) (fun j e' i' h1 h2 => hk (j + 1) e' i' (by simpa using h1) (by simpa using h2)) (by rw [List.length_append]; omega)]
    simp
theorem run_nil {us : List Ru} {bs w : List Int} {st s : Int} {r : List Int} (h : ruleFor us st s = none) : runFrom us bs st (s :: r) w = some w := by
  unfold runFrom
  rw [h]
/-- body_of of a list or a tuple -/
def sdBodyOfB : SpD := fun ws S Q _ => ∃ (f n : Int) (b : Bool) (bs : List Int), ws = [.dat (sq b ((thg f n bs).map D.int))] ∧ (0 ≤ f ∧ f < 5) ∧ OkS n ∧ Sgn bs ∧ bs.length ≤ 900000 ∧ Q (.dat (iv bs)) S
theorem body_vB {P : Program} {w : World} {K : PySem.W.Frag} {mg : Str → Option Value} {base : Heap} {CT : Addr} {k : Nat} {x : Str} {ps : List Str} (C : Fd.Pr P w K mg base k x ps (spBodyOf K CT)) : Fd.Pr P w K mg base k x ps (lift sdBodyOfB) := by
  obtain ⟨fa, fd, g, kp, b, F⟩ := C.ex
  refine ⟨fa, fd, g, kp, b, F.imp ?_⟩
  rintro vs H Q E ⟨O, S, ws, Qd, Ed, st, rs, ⟨f, n, bb, bs, rfl, hf, hn, hs, hl, q⟩, L, _⟩
  obtain ⟨v, rfl, r⟩ := rs.one
  have hd := sq_da (K := K) (b := bb) (bs := thg f n bs) r
  have e0 : ∀ c : Bool, dThing (if c then .list ((thg f n bs).map PyData.int) else .tuple ((thg f n bs).map PyData.int)) = true ∧ dBody (if c then .list ((thg f n bs).map PyData.int) else .tuple ((thg f n bs).map PyData.int)) = bs ∧ (dItems (if c then .list ((thg f n bs).map PyData.int) else .tuple ((thg f n bs).map PyData.int))).length ≤ 1000000 := fun c => by
    have ht := dThing_thg (bs := bs) hf.1 hf.2 hn.1 hn.2
    have eb : dBody (.tuple ((thg f n bs).map PyData.int)) = bs := by
      unfold dBody dFst
      rw [dInts_tup]
      exact shift_back hs
    cases c
    · exact ⟨ht, eb, by show ((thg f n bs).map PyData.int).length ≤ _; rw [List.length_map, thg_len]; omega⟩
    · exact ⟨ht, eb, by show ((thg f n bs).map PyData.int).length ≤ _; rw [List.length_map, thg_len]; omega⟩
  obtain ⟨e1, e2, e3⟩ := e0 bb
  refine spBodyOf_of hd e3 (fun _ p H' s e => ?_) (fun z => ?_)
  · obtain ⟨k1, k2⟩ := own_keep st s
    rw [e2] at e
    exact L.q _ S O _ H' q k2 k1 (Dv.tup ⟨e, tup_no k1 e⟩ (.ints _))
  · rw [e1] at z; cases z
theorem bodyB_A {P : Program} {w : World} {K : PySem.W.Frag} {mg : Str → Option Value} {base : Heap} {k : Nat} {x : Str} {ps : List Str} (C : Fd.Pr P w K mg base k x ps (lift sdBodyOfB)) : Fd.Pr P w K mg base k x ps (lift sdBodyOf) := by
  obtain ⟨fa, fd, g, kp, b, F⟩ := C.ex
  refine ⟨fa, fd, g, kp, b, F.imp ?_⟩
  rintro vs H Q E ⟨O, S, ws, Qd, Ed, st, rs, ⟨f, n, bs, e, h⟩, L, LE⟩
  exact ⟨O, S, ws, Qd, Ed, st, rs, ⟨f, n, false, bs, e, h⟩, L, LE⟩
end Va
namespace Va
open PySem PySem.Spec PyProof.Rows L2 Fd
theorem usI_len {es : List E14} (h : ∀ e ∈ es, e.Ok) (hl : es.length ≤ 4) {last by_ : Int} : (bodyI 0 (usE es last by_)).length ≤ 55 := by
  have one : ∀ e : E14, e.Ok → ∀ i, (ruI (ruE e i)).length ≤ 12 := fun e he i => by
    have := he.l
    show (0 :: (wdI (.sign (i : Nat)) ++ ((((itE e).length : Nat) : Int) :: (itsI (itE e) ++ nxI (some 0))))).length ≤ 12
    have z : (itsI (itE e)).length ≤ 7 := by
      unfold itE
      split
      · show (itI (.put e.p) ++ (itI (.own e.st (20 * e.sh)) ++ [])).length ≤ 7
        simp [itI]
        omega
      · show (itI (.own e.st (20 * e.sh)) ++ []).length ≤ 7
        simp [itI]
    simp [wdI, nxI]
    omega
  have all : ∀ (l : List (E14 × Nat)), (∀ x ∈ l, x.1.Ok) → (rusI (l.map fun x => ruE x.1 x.2)).length ≤ 12 * l.length := by
    intro l
    induction l with
    | nil => intro _; exact Nat.le_refl _
    | cons x l ih =>
      intro hx
      have a := one x.1 (hx x List.mem_cons_self) x.2
      have b := ih fun y hy => hx y (List.mem_cons_of_mem _ hy)
      show (ruI (ruE x.1 x.2) ++ rusI (l.map fun x => ruE x.1 x.2)).length ≤ _
      rw [List.length_append, List.length_cons]
      omega
  have z := all es.zipIdx fun x hx => by
    have y := List.mem_zipIdx (show (x.1, x.2) ∈ es.zipIdx 0 from hx)
    exact h x.1 (by rw [y.2.2]; exact List.getElem_mem _)
  rw [List.length_zipIdx] at z
  show (0 :: rusI (usE es last by_)).length ≤ 55
  have e : rusI (usE es last by_) = rusI (es.zipIdx.map fun x => ruE x.1 x.2) ++ ruI (uEnd last by_) := by
    unfold usE rusI ruEs
    rw [List.map_append, List.flatten_append]
    simp
  rw [e, List.length_cons, List.length_append]
  have y : (ruI (uEnd last by_)).length = 6 := rfl
  omega
/-- what stands in the body that is written -/
structure B14 (bb : List Int) (us : List Ru) : Prop where
  s : Sgn bb
  l : bb.length ≤ 61
  l1 : 1 ≤ bb.length
  h : bb.headD 0 = 0
  r : ∀ st : Int, rulesB (st :: bb.drop 1) = us
theorem b14_of {us : List Ru} {tl : List Int} (hu : RusOk us) (hl : (bodyI 0 us).length ≤ 55) (ht : ruleOf tl = none) (hs : Sgn tl) (htl : tl.length ≤ 6) : B14 (bodyI 0 us ++ tl) us := by
  refine ⟨Sgn.app (bodyI_sgn hu (by decide)) hs, by rw [List.length_append]; omega, by show 1 ≤ (0 :: (rusI us ++ tl)).length; simp, rfl, fun st => ?_⟩
  have z := rulesOf_bodyT (s := st) hu ht
  show (rulesOf (bodyI st us ++ tl).length ((bodyI st us ++ tl).drop 1)).1 = us
  rw [z]
theorem B14.self {bb : List Int} {us : List Ru} (h : B14 bb us) : (0 :: bb.drop 1) = bb ∧ rulesB bb = us := by
  have e : (0 :: bb.drop 1) = bb := by
    obtain ⟨_, _, l1, hd, _⟩ := h
    cases bb with
    | nil => simp at l1
    | cons x r =>
      have hd : x = 0 := hd
      rw [hd]
      rfl
  exact ⟨e, by rw [← e]; exact h.r 0⟩
end Va
namespace Va
/-- where the walk stops -/
@[irreducible] def Stp (p : Prop) : Prop := p
theorem stp {p : Prop} (h : p) : Stp p := by unfold Stp; exact h
theorem Stp.o {p : Prop} (h : Stp p) : p := by unfold Stp at h; exact h
end Va
namespace Va
open PySem PySem.Spec PyProof.Rows L2 Fd
theorem cutD_nat (l : List D) (i j : Nat) : Va.cutD l (some (i : Int)) (some (j : Int)) = (l.drop i).take (j - i) := by
  unfold Va.cutD
  rw [HT.sIx_nat, HT.sIx_nat, drop_min]
  by_cases h : i ≤ l.length
  · by_cases h2 : j ≤ l.length
    · rw [Nat.min_eq_left h2, Nat.min_eq_left h]
    · rw [List.take_of_length_le (show (l.drop i).length ≤ min j l.length - min i l.length by rw [List.length_drop]; omega), List.take_of_length_le (show (l.drop i).length ≤ j - i by rw [List.length_drop]; omega)]
  · rw [List.drop_eq_nil_of_le (show l.length ≤ i by omega), List.take_nil, List.take_nil]
theorem cut_mid {p m t : List Int} {a b : Int} (ha : a = (p.length : Nat)) (hb : b = a + (m.length : Nat)) : Va.cutD ((p ++ m ++ t).map D.int) (some a) (some b) = m.map D.int := by
  subst hb ha
  rw [← Int.natCast_add, cutD_nat, ← List.map_drop, ← List.map_take]
  congr 1
  rw [Nat.add_sub_cancel_left, List.append_assoc, List.drop_left, List.take_left]
def rowI (is : List Nat) : List Int := is.map fun n => ((n : Nat) : Int)
theorem run_ok {CT CR : Addr} {f n : Int} {bs row out : List Int} {b c : Bool} {S : Own} {Q : W → Own → Prop} {E : XD} (hf : 0 ≤ f ∧ f < 5) (hn : OkS n) (hs : Sgn bs) (hb : bs.length ≤ 900000) (hr : Sgn row) (hl : row.length ≤ 800000) (ho : runR bs row = some out) (q : Q (.dat (iv out)) S) :
    sdRun CT CR [.dat (sq b ((thg f n bs).map D.int)), .dat (sq c (row.map D.int))] S Q E := by
  have ht : dThing (py (sq b ((thg f n bs).map D.int))) = true := by
    have z := dThing_thg (bs := bs) hf.1 hf.2 hn.1 hn.2
    cases b
    · show dThing (py (.tup _)) = true
      rw [py, pys_ints]
      exact z
    · show dThing (py (.lst _)) = true
      rw [py, pys_ints]
      exact z
  have hd : dRow (py (sq c (row.map D.int))) = true := by
    cases c
    · show dRow (py (.tup _)) = true
      rw [py, pys_ints]
      exact dRow_tup hr
    · show dRow (py (.lst _)) = true
      rw [py, pys_ints]
      exact dRow_lst hr
  have pu : ∀ (b : Bool) (l : List Int), puW (sq b (l.map D.int)) = true := fun b l => by
    have z : pures (l.map D.int) = true := (sh_all (sh_ints l)).1
    refine puW_of _ ?_
    cases b
    · show pure' (.tup _) = true
      rw [pure']
      exact z
    · show pure' (.lst _) = true
      rw [pure']
      exact z
  unfold sdRun
  refine ⟨_, _, rfl, pu _ _, pu _ _, (fun z => by rw [ht] at z; cases z), (fun _ z => by rw [hd] at z; cases z), fun _ _ => ⟨f, n, bs, row, out, b, c, rfl, rfl, hf, hn, hs, hb, hr, hl, ho, q⟩⟩
end Va
namespace Va
open PySem PySem.Spec PyProof.Rows L2 Fd
theorem outEs_len {bs : List Int} (hb : bs.length ≤ 100) : ∀ {l : List E14}, (∀ e ∈ l, e.Ok) → ((l.map (outE bs)).flatten).length ≤ l.length * 103
  | [], _ => Nat.le_refl _
  | a :: l, h => by
    have y := outE_len (bs := bs) (h a List.mem_cons_self) hb
    have x := outEs_len (bs := bs) hb (l := l) fun b hb => h b (List.mem_cons_of_mem _ hb)
    rw [List.map_cons, List.flatten_cons, List.length_append, List.length_cons]
    omega
theorem outEs_snoc (bs : List Int) (ks : List E14) (e : E14) : ((ks ++ [e]).map (outE bs)).flatten.map D.int = (ks.map (outE bs)).flatten.map D.int ++ e.p.map D.int ++ (shiftI (20 * e.sh) (e.st :: bs.drop 1)).map D.int := by
  rw [List.map_append, List.flatten_append, List.map_append, List.append_assoc, ← List.map_append]
  simp [outE]
theorem shiftI_len (b : Int) (l : List Int) : (shiftI b l).length = l.length := List.length_map ..
end Va

set_option maxRecDepth 100000
set_option maxHeartbeats 2000000
namespace Va
open PySem PySem.Spec PyProof.Rows L2 Fd
/-! ### an object that is made in the body of a try -/
/-- x(..) whose errors are wished by the state -/
def tMakeS (C : Addr) (sp : Sp) (E : L2.St → XK) (t : TA) : TE := fun σ H Q => t σ H fun vs H1 => ∀ x dx, H1 x = none → H1 dx = none → dx ≠ x → sp (.ref x :: vs) (upd (upd H1 dx (.own x)) x (.ins C dx [])) (fun v H2 => v = .non ∧ Q (.ref x) H2) (E σ)
section
variable {X : Cx} {C f : Addr} {fd : FuncData} {ps : List Str} {sp : Sp} {E : L2.St → XK} {k : Nat}
theorem run_makeS {pins : List (Addr × Obj)} {σ : L2.St} {H : Hp} {s : Shared} {Q : VK} {us : List Value} {vs : List V} (M : Mk X.K C f) (F : FnOk X.prog X.w X.K X.mg X.base (L2.CX X.prog X.w) k f fd ps sp) (hr : Room (k + 1) X.A) (hb : Binds X.K fd ps [])
    (px : PassesAt (L2.CX X.prog X.w) X σ (E σ)) (I : Inv X pins σ H s) (r : Vals vs us)
    (h : ∀ x dx, H x = none → H dx = none → dx ≠ x → sp (.ref x :: vs) (upd (upd H dx (.own x)) x (.ins C dx [])) (fun v H2 => v = .non ∧ Q (.ref x) H2) (E σ)) :
    wpAny (model X.prog X.w) X.A (call (.ref C) us) (EP X pins σ Q) X.xe s := by
  have q0 := h (s.heap.objs.size + 1) s.heap.objs.size (I.hok.fresh (Nat.le_succ _)) (I.hok.fresh (Nat.le_refl _)) (Nat.ne_of_lt (Nat.lt_succ_self _))
  have J := Inv.made (C := C) I
  have rr : Vals (V.ref (s.heap.objs.size + 1) :: vs) (Value.ref (s.heap.objs.size + 1) :: us) := .cons rfl r
  have ll : (Value.ref (s.heap.objs.size + 1) :: us).length = ps.length := by
    rw [← rr.length]
    exact F.len _ _ _ _ q0
  have bb := hb _ (Value.ref (s.heap.objs.size + 1) :: us) J.kIn (by rw [List.append_nil]; exact ll)
  rw [List.append_nil] at bb
  refine wpAny_call (make_map (f := f) I.kIn M.makes M.init (beq_iff_eq.mp M.fn) (codeAny_mono (F.run _ X.stack _ _ _ _ _ _ (E σ) (hr.make C us []) (J.env0.make C us []) bb rr q0) fun r1 s1 h1 => ?_))
  rcases r1 with er | fl
  · exact px pins _ _ er s1 J h1
  · cases fl with
    | ret u =>
      obtain ⟨v, H', I3, rv, ev, q3⟩ := J.after h1
      subst ev
      exact ⟨rv, ⟨V.ref (s.heap.objs.size + 1), H', I3, rfl, q3⟩⟩
    | next => exact h1.elim
    | brk => exact h1.elim
    | cont => exact h1.elim
variable {x : Str} {p pos : Pos} {e : Expr} {es : List Expr} {t : TA}
theorem pe_makeS' (M : Mk X.K C f) (F : FnOk X.prog X.w X.K X.mg X.base (L2.CX X.prog X.w) k f fd ps sp) (hr : Room (k + 1) X.A) (hg : Gl X x) (hm : X.mg x = some (.ref C)) (hb : Binds X.K fd ps []) (px : ∀ σ, PassesAt (L2.CX X.prog X.w) X σ (E σ)) (ha : PA X (e :: es) t)
    (hdb : (x == ("__debug__" : Str)) = false := by decide) (he : starEach (e :: es) X.env = (false, eval e X.env) :: starEach es X.env := by rfl) (hpl : (backTo pos (starEach es X.env)).any (·.1) = false := by rfl) :
    PE X (.Call (.Name x p) (e :: es) [] pos) (tMakeS C sp E t) := by
  refine ⟨fun pins s σ H Q I h => ?_⟩
  refine wpAny_Call_Name_kw (ld_glob I hg hm ?_ hdb)
  exact PySem.W.callWith_K (h₀ := X.base) I.ok.mod.kin M.kp (thn (ha.run pos pins s σ H _ I h) fun us s1 ⟨vs, H1, I1, r, q⟩ => ⟨I1.kIn, run_makeS M F hr hb (px σ) I1 r q⟩) he hpl
end
section
variable {X : Cx} {B : Base} {e : Expr} {es : List Expr} {C : Addr} {x : Str} {t : DA} {ta : TA} {sd : SpD} {W : WX} {Wd : WD} {k : Nat} {ps : List Str} {p pos : Pos}
def dMakeT (C : Addr) (sd : SpD) (Wd : WD) (t : DA) : DE := fun δ Q => t δ fun ws δ1 => sd (.own δ1.own.length :: ws) (δ1.own ++ [some (.ins C [] [])]) (fun w S' => w = .dat .non ∧ Q (.own δ1.own.length) ⟨δ1.slots, S'⟩) (fun C d S' => Wd C d ⟨δ1.slots, S'⟩)
theorem v_makeT (lw : LW B Wd W) (h : PE X e (tMakeS C (lift sd) (WE W) (upA B t))) : PE X e (upE B (dMakeT C sd Wd t)) := pe_imp h fun σ H Q ⟨O, δ, Qd, R, h, L⟩ =>
  ⟨O, δ, _, R, h, fun ws δ1 O1 vs H1 q e1 R1 r1 x dx nx nd ne => by
    obtain ⟨e2, s2⟩ := R1.made (C := C) nx nd ne
    have hx : (O1 ++ [x])[δ1.own.length]? = some x := by
      rw [← R1.st.len, List.getElem?_append_right (Nat.le_refl _), Nat.sub_self]
      rfl
    refine ⟨O1 ++ [x], _, _, _, _, s2, WRs.cons (w := .own δ1.own.length) ⟨x, hx, rfl⟩ (r1.ext e2), q, ⟨fun w S' O' v H' q' e' st' wr => ?_⟩, ⟨fun C d S' O' dd v H' q' e' st' hv hd => lw C d _ O' σ dd v H' q' (R1.to st' (e2.trans e')) hv hd⟩⟩
    obtain ⟨ew, q'⟩ := q'
    subst ew
    cases wr
    exact ⟨rfl, L _ _ O' _ H' q' ((e1.trans e2).trans e') (R1.to st' (e2.trans e')) ⟨x, e'.get hx, rfl⟩⟩⟩
theorem pe_makeS (c : PrC X.prog X.w X.K X.mg X.base k x C ps sd) (hr : Room (k + 1) X.A) (tk : L2.Takes X W) (hg : Gl X x) (ha : PA X (e :: es) ta) (hdb : (x == ("__debug__" : Str)) = false := by decide)
    (he : starEach (e :: es) X.env = (false, eval e X.env) :: starEach es X.env := by rfl) (hpl : (backTo pos (starEach es X.env)).any (·.1) = false := by rfl) : PE X (.Call (.Name x p) (e :: es) [] pos) (tMakeS C (lift sd) (WE W) ta) := by
  obtain ⟨f, fd, g, m, b, F⟩ := c.ex
  exact pe_makeS' m F hr hg g b (fun σ => passAt tk σ) ha hdb he hpl
end
end Va
namespace Va
open PySem PySem.Spec PyProof.Rows L2 Fd
/-! ### k12: rows that are refused -/
/-- Rules(row), also of what is no row -/
def sdInitRE (C CR : Addr) : SpD := fun ws S Q E => sdInitR C ws S Q E ∨ ∃ (k : Nat) (d : D), ws = [.own k, .dat d] ∧ puW d = true ∧ dRow (py d) = false ∧ E CR d S
/-- write_body(row), also of what is no row -/
def sdWriteBE (CR : Addr) : SpD := fun ws S Q E => sdWriteB ws S Q E ∨ ∃ d : D, ws = [.dat d] ∧ puW d = true ∧ dRow (py d) = false ∧ E CR d S
/-- thing_of(form, number, row), also of what is no row -/
def sdThingOfE (CR : Addr) : SpD := fun ws S Q E => sdThingOf ws S Q E ∨ ∃ (f n : Int) (d : D), ws = [.dat (.int f), .dat (.int n), .dat d] ∧ (0 ≤ f ∧ f < 5) ∧ OkS n ∧ puW d = true ∧ (dItems (py d)).length ≤ 1000000 ∧ dRow (py d) = false ∧ E CR d S
section
variable {P : Program} {w : World} {K : PySem.W.Frag} {mg : Str → Option Value} {base : Heap}
theorem make_RE {k : Nat} {x : Str} {C CR : Addr} {ps : List Str} (c : PrC P w K mg base k x C ps (sdInitRE C CR)) : PrC P w K mg base k x C ps (sdInitR C) := by
  obtain ⟨f, fd, g, m, b, F⟩ := c.ex
  refine ⟨f, fd, g, m, b, F.imp ?_⟩
  rintro vs H Q E ⟨O, S, ws, Qd, Ed, st, rs, h, L, LE⟩
  exact ⟨O, S, ws, Qd, Ed, st, rs, .inl h, L, LE⟩
theorem thing_vE {CF CS CR : Addr} {k : Nat} {x : Str} {ps : List Str} (C : Fd.Pr P w K mg base k x ps (spThingOf K CF CS CR)) : Fd.Pr P w K mg base k x ps (lift (sdThingOfE CR)) := by
  have C0 := thing_v C
  obtain ⟨fa, fd, g, kp, b, F⟩ := C.ex
  refine ⟨fa, fd, g, kp, b, F.imp ?_⟩
  rintro vs H Q E ⟨O, S, ws, Qd, Ed, st, rs, h, L, LE⟩
  rcases h with ⟨f, n, bb, bs, rfl, hf, hn, hs, hl, q⟩ | ⟨f, n, d, rfl, hf, hn, hp, hl, hd, he⟩
  · cases rs with
    | cons r1 rs =>
    obtain ⟨v2, v3, rfl, r2, r3⟩ := rs.two
    cases r1
    cases r2
    have hd := sq_da (K := K) r3
    have e3 : ∀ c : Bool, dRow (if c then .list (bs.map PyData.int) else .tuple (bs.map PyData.int)) = true ∧ dInts (if c then .list (bs.map PyData.int) else .tuple (bs.map PyData.int)) = bs ∧ (dItems (if c then .list (bs.map PyData.int) else .tuple (bs.map PyData.int))).length = bs.length := fun c => by
      cases c
      · exact ⟨dRow_tup hs, dInts_tup bs, List.length_map ..⟩
      · exact ⟨dRow_lst hs, dInts_lst bs, List.length_map ..⟩
    obtain ⟨e3, e4, e5⟩ := e3 bb
    refine spThingOf_of (d1 := .int f) (d2 := .int n) (.int _) (.int _) hd (by rw [e5]; exact hl) (fun _ _ _ p H' s e => ?_) (fun z => ?_) (fun _ z => ?_) (fun _ _ z => ?_)
    · obtain ⟨k1, k2⟩ := own_keep st s
      rw [e4] at e
      exact L.q _ S O _ H' q k2 k1 (Dv.tup ⟨e, tup_no k1 e⟩ (.ints _))
    · rw [dForm_of hf.1 hf.2] at z; cases z
    · rw [dSign_of hn.1 hn.2] at z; cases z
    · rw [e3] at z; cases z
  · cases rs with
    | cons r1 rs =>
    obtain ⟨v2, v3, rfl, r2, r3⟩ := rs.two
    cases r1
    cases r2
    have r3 : Dv (Fz O S H) v3 d := r3
    refine spThingOf_of (d1 := .int f) (d2 := .int n) (.int _) (.int _) (Dv.daW (fun a o (h : Fz O S H a o) => h.1) _ _ r3 hp) hl (fun _ _ z => ?_) (fun z => ?_) (fun _ z => ?_) (fun _ _ _ dd H' s e => ?_)
    · rw [hd] at z; cases z
    · rw [dForm_of hf.1 hf.2] at z; cases z
    · rw [dSign_of hn.1 hn.2] at z; cases z
    · obtain ⟨k1, k2⟩ := own_keep st s
      exact LE.e CR d S O dd v3 H' he k2 k1 (r3.k k2.fz) e
end
end Va
namespace Va
open PySem PySem.Spec PyProof.Rows L2 Fd
/-- what is no sign, short when it is written -/
structure Odd12 (d : D) : Prop where
  s : Sm 400 3 d
  n : sgD d = false
def sdOdd12 : SpD := fun ws S Q _ => ∃ t, ws = [.own t] ∧ TapeIn S t ∧ sdT t S (fun d : D => d) Odd12 Q
end Va

set_option maxRecDepth 100000
set_option maxHeartbeats 2000000
namespace Va
open PySem PySem.Spec PyProof.Rows L2 Fd
/-! ### k12: what is told of a row, and of a thing -/
def told12 (k : Int) (bs : List Int) : D := if k = 0 then iv bs else if k = 1 then .str "start " else if k = 2 then iv bs else if k = 3 then iv bs else .tup []
def sdTried12 : SpD := fun ws S Q _ => ∃ (k : Int) (d : D), ws = [.dat (.int k), .dat d] ∧ 0 ≤ k ∧ k < 5 ∧ puW d = true ∧ (dItems (py d)).length ≤ 1000 ∧ (dRow (py d) = false → Q (.dat (.tup [.str "row", d])) S) ∧
  (dRow (py d) = true → ∃ (b : Bool) (bs : List Int), d = sq b (bs.map D.int) ∧ Sgn bs ∧ bs.length ≤ 1000 ∧ Q (.dat (.tup [.str "told", told12 k bs])) S)
/-- a thing that is none, with any row -/
def sdTriedT12 : SpD := fun ws S Q _ => ∃ (k : Int) (t r : D), ws = [.dat (.int k), .dat t, .dat r] ∧ 0 ≤ k ∧ k < 2 ∧ puW t = true ∧ puW r = true ∧ dThing (py t) = false ∧ Q (.dat (.tup [.str "thing", t])) S
theorem cut_pre {a b : Str} {n : Nat} (h : a.length = n) : cutS (a ++ b) none (some (n : Int)) = a := by
  subst h
  refine tl_ext ?_
  have l : a.length ≤ (a ++ b).length := by rw [strLen_append]; omega
  have z := cut_to (i := a.length) l
  rw [z, TL.tl_append, List.take_left']
  exact tx_len a
theorem boS_pre (s : Int) (rs : List Ru) : ∃ b : Str, boS s rs = "start " ++ b := by
  unfold boS
  rw [TL.join_eq]
  cases rs with
  | nil => exact ⟨sgS s, rfl⟩
  | cons r rs =>
    refine ⟨sgS s ++ "\n" ++ Str.join "\n" ((r :: rs).map ruS), ?_⟩
    show ("start " ++ sgS s) ++ "\n" ++ Str.join "\n" ((r :: rs).map ruS) = _
    refine tl_ext ?_
    simp only [TL.tl_append, List.append_assoc]
theorem boS_six (s : Int) (rs : List Ru) : cutS (boS s rs) none (some 6) = "start " := by
  obtain ⟨b, e⟩ := boS_pre s rs
  rw [e]
  exact cut_pre (n := 6) (by decide)
theorem shift_zero {bs : List Int} (h : Sgn bs) : shiftI 0 bs = bs := by
  unfold shiftI
  refine (List.map_congr_left (g := id) fun z hz => ?_).trans (List.map_id _)
  have := h z hz
  show (z + 0) % 100 = z
  have h1 := this.1
  have h2 := this.2
  omega
theorem cut_thing {bs : List Int} (h : Sgn bs) : cutD ((thg 0 0 bs).map D.int) (some 2) none = bs.map D.int := by
  refine (cutD_from _ 2).trans ?_
  unfold thg
  rw [Int.mul_zero, shift_zero h]
  rfl
theorem runR_five (row : List Int) : runR [5] row = some [] := by
  cases row <;> rfl
structure NoTh12 (d : D) : Prop where
  s : Sm 6000 4 d
  n : dThing (py d) = false
def sdNoThing12 : SpD := fun ws S Q _ => ∃ (t : Nat) (g : List Int), ws = [.own t, .dat (.lst (g.map D.int))] ∧ TapeIn S t ∧ Sgn g ∧ g.length ≤ 6 ∧ sdT t S (fun d : D => d) NoTh12 Q
theorem thing_row {d : PyData} (h : dRow d = false) : dThing d = false := by
  unfold dThing
  rw [h]
  rfl
theorem row_odd {b : Bool} {ds : List D} {x : D} (h : x ∈ ds) (hx : sgD x = false) : dRow (py (sq b ds)) = false := by
  have e : (ds.map py).all dSign = false := by
    rw [List.all_eq_false]
    exact ⟨py x, List.mem_map.mpr ⟨x, h, rfl⟩, by show ¬ dSign (py x) = true; intro z; exact Bool.noConfusion (hx.symm.trans z)⟩
  cases b
  · show dRow (py (.tup ds)) = false
    rw [py, pys_mapW]
    exact e
  · show dRow (py (.lst ds)) = false
    rw [py, pys_mapW]
    exact e
theorem thing_first {b : Bool} {ds : List D} {i : Int} (h : 5 ≤ i) : dThing (py (sq b (.int i :: ds))) = false := by
  have e : dForm (.int i) = false := by
    show (decide (0 ≤ i) && decide (i < 5)) = false
    rw [decide_eq_false (show ¬ i < 5 by omega), Bool.and_false]
  have z : ∀ c : Bool, dThing (if c then .list (.int i :: pys ds) else .tuple (.int i :: pys ds)) = false := fun c => by
    unfold dThing
    cases c
    · show (_ && (_ && dForm (.int i))) = false
      rw [e, Bool.and_false, Bool.and_false]
    · show (_ && (_ && dForm (.int i))) = false
      rw [e, Bool.and_false, Bool.and_false]
  cases b
  · show dThing (py (.tup (.int i :: ds))) = false
    rw [py, pys, py]
    exact z false
  · show dThing (py (.lst (.int i :: ds))) = false
    rw [py, pys, py]
    exact z true
theorem thing_short {b : Bool} {ds : List D} (h : ds.length < 2) : dThing (py (sq b ds)) = false := by
  have z : ∀ d : PyData, (dItems d).length < 2 → dThing d = false := fun d hd => by
    unfold dThing
    rw [decide_eq_false (show ¬ 2 ≤ (dItems d).length by omega), Bool.false_and, Bool.and_false]
  cases b
  · show dThing (py (.tup ds)) = false
    rw [py, pys_mapW]
    refine z _ ?_
    show (ds.map py).length < 2
    rw [List.length_map]
    exact h
  · show dThing (py (.lst ds)) = false
    rw [py, pys_mapW]
    refine z _ ?_
    show (ds.map py).length < 2
    rw [List.length_map]
    exact h
structure Bad12 (d : D) : Prop where
  s : Sm 6000 4 d
  n : dRow (py d) = false
  l : (dItems (py d)).length ≤ 1000
theorem items_sq {b : Bool} {ds : List D} : (dItems (py (sq b ds))).length = ds.length := by
  cases b
  · show (dItems (py (.tup ds))).length = ds.length
    rw [py, pys_mapW]
    exact List.length_map ..
  · show (dItems (py (.lst ds))).length = ds.length
    rw [py, pys_mapW]
    exact List.length_map ..
theorem Sm.same {n k : Nat} {ds : List D} (h : Sm n k (.tup ds)) (hk : k ≤ 40) : puWs ds = true ∧ PyData.depthAll (pys ds) ≤ 40 := by
  have a := h.p
  have b := h.f.dep
  rw [puW] at a
  rw [py, PyData.depth] at b
  exact ⟨a, by omega⟩
theorem sm_told {s : Str} {d : D} (hs : Sm 46 0 (.str s)) (h : Sm 6000 4 d) : Sm 13000 5 (.tup [.str s, d]) :=
  (Sm.tup (n := 6000) (k := 4) (ds := [.str s, d]) (fun x hx => by
    rcases List.mem_cons.mp hx with rfl | hx
    · exact hs.le (by decide) (by decide)
    · rw [List.mem_singleton.mp hx]
      exact h)).le (show 3 + 2 * (6000 + 2) ≤ 13000 by decide) (by decide)
end Va

set_option maxRecDepth 100000
set_option maxHeartbeats 4000000
namespace My
open PySem PySem.Spec PyProof.Rows L2 Fd Va
local macro_rules | `(tactic| walk_at "om") => `(tactic| first | omega | (simp only [List.length_set, List.length_append, List.length_map, List.length_cons, List.length_nil]; omega))
local macro_rules | `(tactic| walk_at "lf") => `(tactic| first
  | ((with_reducible show List.map (sub _ _) _ = _); (simp (disch := (walk_at "om")) only [slots0, List.set_cons_succ, List.set_cons_zero, List.length_cons, List.length_nil, List.map_cons, List.map_nil, List.cons_append, List.nil_append, List.append_nil, List.replicate_succ, List.replicate_zero, Nat.reduceSub, Nat.reduceAdd, sub_own, sub_me, sub_dat, sub_none]); exact rfl)
  | ((with_reducible show (_ : List (Option W))[_]? = _); exact rfl)
  | (with_reducible exact rfl) | (with_reducible assumption) | (with_reducible exact push_get) | (with_reducible exact made1)
  | ((with_reducible apply set_get); walk_at "lf") | ((with_reducible apply get_push); walk_at "lf") | ((with_reducible apply get_set); (focus (walk_at "lf")); (walk_at "om"))
  | ((with_reducible show TapeIn _ _); first | exact Gr.tape (by assumption) | ((with_reducible apply TapeIn.push); walk_at "lf") | ((with_reducible apply TapeIn.set); (focus (walk_at "lf")); (walk_at "om")))
  | ((with_reducible show CMul _ _); first | exact Or.inl ⟨by decide, by decide⟩ | exact Or.inr ⟨by decide, by decide⟩ | exact Or.inl ⟨by omega, by omega⟩)
  | ((with_reducible apply get_gr); (focus assumption); (focus (walk_at "lf")); (walk_at "om"))
  | ((with_reducible apply pkI); (focus (walk_at "lf")); (focus (exact rfl)))
  | ((with_reducible apply pkL); (focus (walk_at "lf")); (focus (exact rfl)))
  | ((with_reducible apply pkT); (focus (walk_at "lf")); (focus (exact rfl)))
  | ((with_reducible show (_ : Nat) ≤ PySem.sizeLine); exact sz (by first | omega | (simp only [List.length_append]; omega) | (simp only [List.length_append, List.length_cons, List.length_nil]; omega) | (simp only [List.length_map, List.length_append, List.length_cons, List.length_nil]; omega) | (simp; done) | (simp; omega)))
  | ((with_reducible show (_ : Nat) < PySem.sizeLine); exact szl (by first | omega | (simp only [List.length_append]; omega) | (simp only [List.length_append, List.length_cons, List.length_nil]; omega) | (simp only [List.length_map, List.length_append, List.length_cons, List.length_nil]; omega) | (simp; done) | (simp; omega)))
  | exact Or.inr rfl | exact Or.inl rfl | ((with_reducible show PkS _ _ _); (apply Or.inl); walk_at "lf") | exact rfl | exact dat_own | exact atI_nat (j := 0) rfl | exact atI_nat (j := 1) rfl | exact atI_nat (j := 2) rfl | exact atI_nat (j := 3) rfl | exact atI_nat (by assumption) | exact ixN_nat (by first | omega | (simp only [List.length_map, List.length_append, List.length_cons, List.length_nil]; omega)) | exact atI_last (by first | omega | (simp only [List.length_map, stE, shE, puE]; omega)) | omega | decide +kernel | (simp only [List.length_set, List.length_append, List.length_map, List.length_cons, List.length_nil]; omega))
local macro_rules | `(tactic| walk_at "ex") => `(tactic| ((fail_if_success (apply Exists.intro (α := Nat → DS → Prop))); (fail_if_success (apply Exists.intro (α := DS → Prop))); (fail_if_success (apply Exists.intro (α := Va.WD))); apply Exists.intro; first | walk_at "ex" | (refine And.intro ?_ ?_; (focus (walk_at "lf")))))
local macro_rules | `(tactic| walk_at "st") => `(tactic| first
  | (refine And.intro ?_ ?_; (focus (walk_at "lf")))
  | walk_at "ex"
  | refine toDd ?_
  | refine ifT rfl ?_
  | refine ifF rfl ?_
  | refine ifT (by decide +kernel) ?_
  | refine ifF (by decide +kernel) ?_
  | (apply ixT; (focus (walk_at "lf")))
  | refine intI ?_
  | refine lenT ?_
  | refine lenL ?_
  | (apply lenO; (focus (walk_at "lf")); (focus (walk_at "lf")))
  | (apply ixL; (focus (walk_at "lf")))
  | (apply ixO; (focus (walk_at "lf")); (focus (walk_at "lf")))
  | fail)
local macro_rules | `(tactic| walk_at "go") => `(tactic| ((repeat walk_at "st"); try dsimp only))

def top (i : Nat) : Stmt := PySem.Challenge.pw_trulymade_k12_rows_refused.main.body.getD i (.Pass ⟨0, 0, 0, 0⟩)
abbrev s_wall : Stmt := top 0
theorem sc_wall : FnScope ["k"] ["k"] (defScope s_wall) := ⟨rfl, rfl, rfl, by decide +kernel, rfl, by decide +kernel, by decide +kernel⟩
abbrev s_is_whole : Stmt := top 14
theorem sc_is_whole : FnScope ["value"] ["value"] (defScope s_is_whole) := ⟨rfl, rfl, rfl, by decide +kernel, rfl, by decide +kernel, by decide +kernel⟩
abbrev s_is_sign : Stmt := top 15
theorem sc_is_sign : FnScope ["value"] ["value"] (defScope s_is_sign) := ⟨rfl, rfl, rfl, by decide +kernel, rfl, by decide +kernel, by decide +kernel⟩
abbrev s_is_form : Stmt := top 16
theorem sc_is_form : FnScope ["value"] ["value"] (defScope s_is_form) := ⟨rfl, rfl, rfl, by decide +kernel, rfl, by decide +kernel, by decide +kernel⟩
abbrev s_is_row : Stmt := top 17
theorem sc_is_row : FnScope ["value", "sign"] ["value"] (defScope s_is_row) := ⟨rfl, rfl, rfl, by decide +kernel, rfl, by decide +kernel, by decide +kernel⟩
abbrev s_shifted : Stmt := top 18
theorem sc_shifted : FnScope ["row", "by", "sign"] ["row", "by"] (defScope s_shifted) := ⟨rfl, rfl, rfl, by decide +kernel, rfl, by decide +kernel, by decide +kernel⟩
abbrev s_is_thing : Stmt := top 19
theorem sc_is_thing : FnScope ["row"] ["row"] (defScope s_is_thing) := ⟨rfl, rfl, rfl, by decide +kernel, rfl, by decide +kernel, by decide +kernel⟩
abbrev s_form_of : Stmt := top 20
theorem sc_form_of : FnScope ["thing"] ["thing"] (defScope s_form_of) := ⟨rfl, rfl, rfl, by decide +kernel, rfl, by decide +kernel, by decide +kernel⟩
abbrev s_body_of : Stmt := top 21
theorem sc_body_of : FnScope ["thing", "form"] ["thing"] (defScope s_body_of) := ⟨rfl, rfl, rfl, by decide +kernel, rfl, by decide +kernel, by decide +kernel⟩
abbrev s_thing_of : Stmt := top 22
theorem sc_thing_of : FnScope ["form", "number", "body"] ["form", "number", "body"] (defScope s_thing_of) := ⟨rfl, rfl, rfl, by decide +kernel, rfl, by decide +kernel, by decide +kernel⟩
abbrev s_rules_and_tail : Stmt := top 25
theorem sc_rules_and_tail : FnScope ["body", "rules", "at", "told", "rule"] ["body"] (defScope s_rules_and_tail) := ⟨rfl, rfl, rfl, by decide +kernel, rfl, by decide +kernel, by decide +kernel⟩
abbrev s_rule_at : Stmt := top 26
theorem sc_rule_at : FnScope ["body", "at", "told", "word", "at_items", "items", "end"] ["body", "at"] (defScope s_rule_at) := ⟨rfl, rfl, rfl, by decide +kernel, rfl, by decide +kernel, by decide +kernel⟩
abbrev s_word_at : Stmt := top 27
theorem sc_word_at : FnScope ["body", "at", "head"] ["body", "at"] (defScope s_word_at) := ⟨rfl, rfl, rfl, by decide +kernel, rfl, by decide +kernel, by decide +kernel⟩
abbrev s_items_at : Stmt := top 28
theorem sc_items_at : FnScope ["body", "at", "items", "end", "_", "told", "item"] ["body", "at"] (defScope s_items_at) := ⟨rfl, rfl, rfl, by decide +kernel, rfl, by decide +kernel, by decide +kernel⟩
abbrev s_item_at : Stmt := top 29
theorem sc_item_at : FnScope ["body", "at", "head", "end"] ["body", "at"] (defScope s_item_at) := ⟨rfl, rfl, rfl, by decide +kernel, rfl, by decide +kernel, by decide +kernel⟩
abbrev s_write_body : Stmt := top 31
theorem sc_write_body : FnScope ["body", "told", "rule"] ["body"] (defScope s_write_body) := ⟨rfl, rfl, rfl, by decide +kernel, rfl, by decide +kernel, by decide +kernel⟩
abbrev s_rule_text : Stmt := top 32
theorem sc_rule_text : FnScope ["rule", "stand", "word", "items", "after", "row"] ["rule"] (defScope s_rule_text) := ⟨rfl, rfl, rfl, by decide +kernel, rfl, by decide +kernel, by decide +kernel⟩
abbrev s_items_text : Stmt := top 33
theorem sc_items_text : FnScope ["items", "item"] ["items"] (defScope s_items_text) := ⟨rfl, rfl, rfl, by decide +kernel, rfl, by decide +kernel, by decide +kernel⟩
abbrev s_item_text : Stmt := top 34
theorem sc_item_text : FnScope ["item", "parts", "part"] ["item"] (defScope s_item_text) := ⟨rfl, rfl, rfl, by decide +kernel, rfl, by decide +kernel, by decide +kernel⟩
abbrev s_rule_size : Stmt := top 38
theorem sc_rule_size : FnScope ["rule", "body", "size", "item"] ["rule", "body"] (defScope s_rule_size) := ⟨rfl, rfl, rfl, by decide +kernel, rfl, by decide +kernel, by decide +kernel⟩
abbrev s_rule_signs : Stmt := top 39
theorem sc_rule_signs : FnScope ["rule", "sign", "body", "signs", "item"] ["rule", "sign", "body"] (defScope s_rule_signs) := ⟨rfl, rfl, rfl, by decide +kernel, rfl, by decide +kernel, by decide +kernel⟩
abbrev s_own_row : Stmt := top 40
theorem sc_own_row : FnScope ["body", "first", "by"] ["body", "first", "by"] (defScope s_own_row) := ⟨rfl, rfl, rfl, by decide +kernel, rfl, by decide +kernel, by decide +kernel⟩
abbrev s_run : Stmt := top 42
theorem sc_run : FnScope ["thing", "row"] ["thing", "row"] (defScope s_run) := ⟨rfl, rfl, rfl, by decide +kernel, rfl, by decide +kernel, by decide +kernel⟩
abbrev s_law_tape : Stmt := top 45
theorem sc_law_tape : FnScope ["script"] ["script"] (defScope s_law_tape) := ⟨rfl, rfl, rfl, by decide +kernel, rfl, by decide +kernel, by decide +kernel⟩
abbrev s_law_pick : Stmt := top 46
theorem sc_law_pick : FnScope ["tape", "size", "digit", "cell", "mixed"] ["tape", "size"] (defScope s_law_pick) := ⟨rfl, rfl, rfl, by decide +kernel, rfl, by decide +kernel, by decide +kernel⟩
abbrev s_law_sign : Stmt := top 47
theorem sc_law_sign : FnScope ["tape", "kind"] ["tape"] (defScope s_law_sign) := ⟨rfl, rfl, rfl, by decide +kernel, rfl, by decide +kernel, by decide +kernel⟩
abbrev s_law_signs : Stmt := top 48
theorem sc_law_signs : FnScope ["tape", "many", "row", "k"] ["tape", "many"] (defScope s_law_signs) := ⟨rfl, rfl, rfl, by decide +kernel, rfl, by decide +kernel, by decide +kernel⟩
abbrev s_law_odd : Stmt := top 49
theorem sc_law_odd : FnScope ["tape", "kind"] ["tape"] (defScope s_law_odd) := ⟨rfl, rfl, rfl, by decide +kernel, rfl, by decide +kernel, by decide +kernel⟩
abbrev s_law_tried : Stmt := top 50
theorem sc_law_tried : FnScope ["kind", "row", "error"] ["kind", "row"] (defScope s_law_tried) := ⟨rfl, rfl, rfl, by decide +kernel, rfl, by decide +kernel, by decide +kernel⟩
abbrev s_law_no_thing : Stmt := top 51
theorem sc_law_no_thing : FnScope ["tape", "good", "kind", "thing", "place"] ["tape", "good"] (defScope s_law_no_thing) := ⟨rfl, rfl, rfl, by decide +kernel, rfl, by decide +kernel, by decide +kernel⟩
abbrev s_law_tried_thing : Stmt := top 52
theorem sc_law_tried_thing : FnScope ["kind", "thing", "row", "error"] ["kind", "thing", "row"] (defScope s_law_tried_thing) := ⟨rfl, rfl, rfl, by decide +kernel, rfl, by decide +kernel, by decide +kernel⟩
abbrev s_law : Stmt := top 53
theorem sc_law : FnScope ["script", "tape", "good", "place", "bad", "scrap", "kept", "kind", "row", "found", "told"] ["script"] (defScope s_law) := ⟨rfl, rfl, rfl, by decide +kernel, rfl, by decide +kernel, by decide +kernel⟩
abbrev s_Rules_init : Stmt := inClass (top 24) 0
theorem sc_Rules_init : FnScope ["self", "body"] ["self", "body"] (defScope s_Rules_init) := ⟨rfl, rfl, rfl, by decide +kernel, rfl, by decide +kernel, by decide +kernel⟩
abbrev s_Program_init : Stmt := inClass (top 37) 0
theorem sc_Program_init : FnScope ["self", "thing", "told", "rule"] ["self", "thing"] (defScope s_Program_init) := ⟨rfl, rfl, rfl, by decide +kernel, rfl, by decide +kernel, by decide +kernel⟩
abbrev s_Program_rule_for : Stmt := inClass (top 37) 1
theorem sc_Program_rule_for : FnScope ["self", "stand", "sign"] ["self", "stand", "sign"] (defScope s_Program_rule_for) := ⟨rfl, rfl, rfl, by decide +kernel, rfl, by decide +kernel, by decide +kernel⟩
abbrev s_Program_rule_at_end : Stmt := inClass (top 37) 2
theorem sc_Program_rule_at_end : FnScope ["self", "stand"] ["self", "stand"] (defScope s_Program_rule_at_end) := ⟨rfl, rfl, rfl, by decide +kernel, rfl, by decide +kernel, by decide +kernel⟩
abbrev s_Machine_write : Stmt := inClass (top 43) 12
theorem sc_Machine_write : FnScope ["self", "rule", "sign"] ["self", "rule", "sign"] (defScope s_Machine_write) := ⟨rfl, rfl, rfl, by decide +kernel, rfl, by decide +kernel, by decide +kernel⟩
abbrev s_Machine_read : Stmt := inClass (top 43) 11
theorem sc_Machine_read : FnScope ["self", "sign", "rule"] ["self", "sign"] (defScope s_Machine_read) := ⟨rfl, rfl, rfl, by decide +kernel, rfl, by decide +kernel, by decide +kernel⟩
abbrev s_Machine_step : Stmt := inClass (top 43) 8
theorem sc_Machine_step : FnScope ["self", "ahead"] ["self"] (defScope s_Machine_step) := ⟨rfl, rfl, rfl, by decide +kernel, rfl, by decide +kernel, by decide +kernel⟩
abbrev s_Machine_go : Stmt := inClass (top 43) 10
theorem sc_Machine_go : FnScope ["self", "ahead"] ["self"] (defScope s_Machine_go) := ⟨rfl, rfl, rfl, by decide +kernel, rfl, by decide +kernel, by decide +kernel⟩
abbrev s_Machine_init : Stmt := inClass (top 43) 0
theorem sc_Machine_init : FnScope ["self", "thing", "row"] ["self", "thing", "row"] (defScope s_Machine_init) := ⟨rfl, rfl, rfl, by decide +kernel, rfl, by decide +kernel, by decide +kernel⟩
abbrev s_Machine_row : Stmt := inClass (top 43) 2
theorem sc_Machine_row : FnScope ["self"] ["self"] (defScope s_Machine_row) := ⟨rfl, rfl, rfl, by decide +kernel, rfl, by decide +kernel, by decide +kernel⟩

structure Tx (K : PySem.W.Frag) (mg : Str → Option Value) (fI fI_TooLong fI_Finished fI_NothingDone c_MadeError c_BadRow c_BadThing c_BadForm c_BadSign c_TooLong c_Finished c_NothingDone c_Rules c_Program c_Machine : Addr) : Prop where
  n : Nms mg
  c_SIGNS : ∃ t, mg "SIGNS" = some (.int 100 t)
  c_FORMS : ∃ t, mg "FORMS" = some (.int 5 t)
  c_SHIFT : ∃ t, mg "SHIFT" = some (.int 20 t)
  c_MOST_WRITTEN : ∃ t, mg "MOST_WRITTEN" = some (.int 20000 t)
  x_MadeError : Ex K mg "MadeError" c_MadeError fI
  x_BadRow : Ex K mg "BadRow" c_BadRow fI
  x_BadThing : Ex K mg "BadThing" c_BadThing fI
  x_BadForm : Ex K mg "BadForm" c_BadForm fI
  x_BadSign : Ex K mg "BadSign" c_BadSign fI
  x_TooLong : Ex K mg "TooLong" c_TooLong fI_TooLong
  x_Finished : Ex K mg "Finished" c_Finished fI_Finished
  x_NothingDone : Ex K mg "NothingDone" c_NothingDone fI_NothingDone
  g_Rules : mg "Rules" = some (.ref c_Rules)
  k_Rules : ClsIs K c_Rules
  n_Rules_body : NoAttr K c_Rules "body"
  n_Rules_start : NoAttr K c_Rules "start"
  n_Rules_rules : NoAttr K c_Rules "rules"
  n_Rules_tail : NoAttr K c_Rules "tail"
  g_Program : mg "Program" = some (.ref c_Program)
  k_Program : ClsIs K c_Program
  n_Program_body : NoAttr K c_Program "body"
  n_Program_start : NoAttr K c_Program "start"
  n_Program_taken : NoAttr K c_Program "taken"
  g_Machine : mg "Machine" = some (.ref c_Machine)
  k_Machine : ClsIs K c_Machine
  n_Machine__thing : NoAttr K c_Machine "_thing"
  n_Machine__row : NoAttr K c_Machine "_row"
  n_Machine__program : NoAttr K c_Machine "_program"
  n_Machine__at : NoAttr K c_Machine "_at"
  n_Machine__stand : NoAttr K c_Machine "_stand"
  n_Machine__over : NoAttr K c_Machine "_over"
  n_Machine__written : NoAttr K c_Machine "_written"
  n_Machine__past : NoAttr K c_Machine "_past"
  e_BadRow : Ec K c_BadRow
  m_BadRow : PySem.W.exmOne K (.ref c_BadRow) (.ref c_MadeError) = some true
  k1_BadRow : PySem.W.kitOne K (.ref c_BadRow) (.ref c_BadRow) = some true
  k2_BadRow : PySem.W.kitOne K (.ref c_BadRow) (.ref c_BadThing) = some false
  e_BadThing : Ec K c_BadThing
  m_BadThing : PySem.W.exmOne K (.ref c_BadThing) (.ref c_MadeError) = some true
  k1_BadThing : PySem.W.kitOne K (.ref c_BadThing) (.ref c_BadThing) = some true
  k2_BadThing : PySem.W.kitOne K (.ref c_BadThing) (.ref c_BadRow) = some false
section
variable {P : Program} {w : World} {K : PySem.W.Frag} {mg : Str → Option Value} {base : Heap} {fI fI_TooLong fI_Finished fI_NothingDone c_MadeError c_BadRow c_BadThing c_BadForm c_BadSign c_TooLong c_Finished c_NothingDone c_Rules c_Program c_Machine : Addr}
theorem ok_law_pick (T : Tx K mg fI fI_TooLong fI_Finished fI_NothingDone c_MadeError c_BadRow c_BadThing c_BadForm c_BadSign c_TooLong c_Finished c_NothingDone c_Rules c_Program c_Machine) (D : Dx K mg "_law_pick" s_law_pick ["tape", "size"]) : Pr P w K mg base 1 "_law_pick" ["tape", "size"] spPick := by
  refine D.pr sc_law_pick (fun vs H Q E h => ?_) (fun f cdv A outer s H vs Q E hr h => ⟨_,
      (pss_cons (ps_if (pt_cmpR op_gt (pe_ix ix_list (pv 0) pe_int (fun _ _ => rfl)) pe_int (nomark _))
        (pss_cons (ps_set (i := 2) sc_law_pick.nd rfl (Or.inl rfl) (pe_op op_mod (pe_callTy call_int1 (by rfl) T.n.n_int (by decide +kernel) (pa_cons (pe_ix ix_list (pv 0) pe_int (fun _ _ => rfl)) pa_nil)) (pv 1)))
        (pss_cons (ps_asg (pe_op op_fdivW (pe_ix ix_list (pv 0) pe_int (fun _ _ => rfl)) (pv 1)) (pg_sub (pv 0) pe_int set_list))
        (pss_one (ps_ret (pv 2)))))
        pss_nil)
      (pss_cons (ps_asg (pe_op op_add (pe_ix ix_list (pv 0) pe_int (fun _ _ => rfl)) pe_int) (pg_sub (pv 0) pe_int set_list))
      (pss_cons (ps_set (i := 3) sc_law_pick.nd rfl (Or.inl rfl) pe_int)
      (Evl.pss_cut (ps_if (pt_cmpR op_lt (pe_ix ix_list (pv 0) pe_int (fun _ _ => rfl)) (pe_callB call_len (by rfl) T.n.n_len (by decide +kernel) (pa_cons (pe_ix ix_list (pv 0) pe_int (fun _ _ => rfl)) pa_nil)) (nomark _))
        (pss_cons (ps_set (i := 3) sc_law_pick.nd rfl (Or.inl rfl) (pe_ix ix_list (pe_ix ix_list (pv 0) pe_int (fun _ _ => rfl)) (pe_ix ix_list (pv 0) pe_int (fun _ _ => rfl)) (fun _ _ => rfl)))
        (pss_one (ps_asg (pe_op op_add (pe_ix ix_list (pv 0) pe_int (fun _ _ => rfl)) pe_int) (pg_sub (pv 0) pe_int set_list))))
        pss_nil)
      (pss_cons (ps_if (pt_cmpR op_ge (pv 3) (pe_op op_pow pe_int pe_int) (nomark _))
        (pss_cons (ps_asg (pe_op op_fdivW (pv 3) (pv 1)) (pg_sub (pv 0) pe_int set_list))
        (pss_one (ps_ret (pe_op op_mod (pe_callTy call_int1 (by rfl) T.n.n_int (by decide +kernel) (pa_cons (pv 3) pa_nil)) (pv 1)))))
        pss_nil)
      (pss_cons (ps_set (i := 4) sc_law_pick.nd rfl (Or.inl rfl) (pe_op op_mod (pe_callTy call_int1 (by rfl) T.n.n_int (by decide +kernel) (pa_cons (pe_op op_add (pe_op op_add (pe_op op_mul (pe_ix ix_list (pv 0) pe_int (fun _ _ => rfl)) pe_int) (pe_op op_mod (pe_callTy call_int1 (by rfl) T.n.n_int (by decide +kernel) (pa_cons (pv 3) pa_nil)) pe_int)) (pe_op op_mul (pe_ix ix_list (pv 0) pe_int (fun _ _ => rfl)) pe_int)) pa_nil)) pe_int))
      (pss_cons (ps_set (i := 4) sc_law_pick.nd rfl (Or.inl rfl) (pe_op op_mod (pe_callTy call_int1 (by rfl) T.n.n_int (by decide +kernel) (pa_cons (pe_op op_mul (pv 4) (pe_op op_add (pe_op op_fdivW (pv 4) pe_int) pe_int)) pa_nil)) pe_int))
      (pss_cons (ps_asg (pv 4) (pg_sub (pv 0) pe_int set_list))
      (pss_one (ps_ret (pe_op op_mod (pe_callTy call_int1 (by rfl) T.n.n_int (by decide +kernel) (pa_cons (pe_op op_fdivW (pv 4) pe_int) pa_nil)) (pv 1)))))))))))), ?_⟩)
  · obtain ⟨t, c, size, rfl, _⟩ := h
    rfl
  obtain ⟨t, c, size, rfl, s0, s1, ⟨T0, hT, xs, pos, rest, mix, cnt, rfl, hc, hp, hm0, hm1⟩, q⟩ := h
  have ne : c ≠ t := tape_ne hT hc
  have dw : CDivW rest size := wide_div s0 (show size.natAbs < 2 ^ 30 by omega) (by decide) (by decide)
  have goU : ∀ {H' : Hp} {T' : List V}, (∀ b o, b ≠ t → H b = some o → H' b = some o) → H' t = some (.lst T') → (∃ (pos rest mix cnt : Int), T' = [.ref c, .int pos, .int rest, .int mix, .int cnt] ∧ 0 ≤ pos ∧ 0 ≤ mix ∧ mix < 2147483648) → Go t c H H' := by
    rintro H' T' k e ⟨p1, r1, m1, c1, rfl, h1, h2, h3⟩
    exact ⟨k, _, e, xs, p1, r1, m1, c1, rfl, k c _ ne hc, h1, h2, h3⟩
  dsimp only [cxOf]
  -- tape[2] > 1
  refine ⟨_, rfl, t, _, _, _, rfl, rfl, SqL.of hT, rfl, _, _, rfl, rfl, _, rfl, ?_⟩
  refine ite2 (fun _ => ?_) (fun _ => ?_)
  · refine ⟨_, rfl, t, _, _, _, rfl, rfl, SqL.of hT, rfl, .inl ⟨_, rfl, _, rfl, _, _, rfl, rfl, s0, ?_⟩⟩
    refine ⟨_, rfl, t, _, _, _, rfl, rfl, SqL.of hT, rfl, _, rfl, _, _, rfl, rfl, dw, ?_⟩
    refine ⟨_, rfl, t, _, _, 2, rfl, rfl, hT, rfl, ?_⟩
    refine ⟨_, rfl, q _ _ (Int.emod_nonneg _ (by omega)) (Int.emod_lt_of_pos _ s0) (goU (fun b o nb e => by rw [upd_ne nb]; exact e) upd_same ⟨_, _, _, _, rfl, hp, hm0, hm1⟩)⟩
  -- tape[4] = tape[4] + 1
  refine ⟨_, rfl, t, _, _, _, rfl, rfl, SqL.of hT, rfl, _, _, rfl, rfl, ?_⟩
  refine ⟨_, rfl, t, _, _, 4, rfl, rfl, hT, rfl, ?_⟩
  -- cell
  refine ⟨fun σ' H' => ∃ (cell pos' : Int) (y2 y4 : Option V), σ' = [some (.ref t), some (.int size), y2, some (.int cell), y4] ∧ 0 ≤ pos' ∧ (∀ b o, b ≠ t → H b = some o → H' b = some o) ∧ H' t = some (.lst [.ref c, .int pos', .int rest, .int mix, .int (cnt + 1)]), ?_, ?_⟩
  · have hT1 : (upd H t (HO.lst (List.set [V.ref c, V.int pos, V.int rest, V.int mix, V.int cnt] 4 (V.int (cnt + 1))))) t = some (.lst [.ref c, .int pos, .int rest, .int mix, .int (cnt + 1)]) := upd_same
    have hc1 : (upd H t (HO.lst (List.set [V.ref c, V.int pos, V.int rest, V.int mix, V.int cnt] 4 (V.int (cnt + 1))))) c = some (.lst (xs.map V.int)) := by rw [upd_ne ne]; exact hc
    have k1 : ∀ b o, b ≠ t → H b = some o → (upd H t (HO.lst (List.set [V.ref c, V.int pos, V.int rest, V.int mix, V.int cnt] 4 (V.int (cnt + 1))))) b = some o := fun b o nb e => by rw [upd_ne nb]; exact e
    generalize upd H t (HO.lst (List.set [V.ref c, V.int pos, V.int rest, V.int mix, V.int cnt] 4 (V.int (cnt + 1)))) = H1 at hT1 hc1 k1 ⊢
    refine ⟨_, rfl, t, _, _, _, rfl, rfl, SqL.of hT1, rfl, _, rfl, t, _, _, _, rfl, rfl, SqL.of hT1, rfl, _, _, rfl, .inl ⟨_, SqL.of hc1, rfl⟩, _, _, rfl, rfl, _, rfl, ?_⟩
    refine ite2 (fun hlt => ?_) (fun _ => ?_)
    · obtain ⟨j, rfl⟩ := Int.eq_ofNat_of_zero_le hp
      have hj : j < (xs.map V.int).length := by simpa using hlt
      have hj' : j < xs.length := by simpa using hj
      have at1 : atI (xs.map V.int) (j : Int) = some (V.int xs[j]) := atI_nat (by rw [List.getElem?_map, List.getElem?_eq_getElem hj']; rfl)
      refine ⟨_, rfl, t, _, _, _, rfl, rfl, SqL.of hT1, rfl, _, rfl, t, _, _, _, rfl, rfl, SqL.of hT1, rfl, c, _, _, _, rfl, rfl, SqL.of hc1, at1, ?_⟩
      refine ⟨_, rfl, t, _, _, _, rfl, rfl, SqL.of hT1, rfl, _, _, rfl, rfl, _, rfl, t, _, _, 1, rfl, rfl, hT1, rfl, ?_⟩
      exact ⟨_, _, _, _, rfl, by omega, fun b o nb e => by rw [upd_ne nb]; exact k1 b o nb e, upd_same⟩
    · exact ⟨_, _, _, _, rfl, hp, k1, hT1⟩
  · rintro σ' H' ⟨cell, pos', y2, y4, rfl, hp', k1, hT1⟩
    have dw2 : CDivW cell size := wide_div s0 (show size.natAbs < 2 ^ 30 by omega) (by decide) (by decide)
    refine ⟨_, rfl, _, _, rfl, rfl, ⟨by decide, by decide, by decide⟩, _, _, rfl, rfl, _, rfl, ?_⟩
    refine ite2 (fun _ => ?_) (fun _ => ?_)
    · refine ⟨_, rfl, _, rfl, _, _, rfl, rfl, dw2, _, rfl, t, _, _, 2, rfl, rfl, hT1, rfl, ?_⟩
      refine ⟨_, rfl, .inl ⟨_, rfl, _, rfl, _, _, rfl, rfl, s0, ?_⟩⟩
      exact q _ _ (Int.emod_nonneg _ (by omega)) (Int.emod_lt_of_pos _ s0) (goU (fun b o nb e => by rw [upd_ne nb]; exact k1 b o nb e) upd_same ⟨_, _, _, _, rfl, hp', hm0, hm1⟩)
    · refine ⟨_, rfl, t, _, _, _, rfl, rfl, SqL.of hT1, rfl, _, _, rfl, rfl, .inr (by decide), _, rfl, .inl ⟨_, rfl, _, _, rfl, rfl, (show (0 : Int) < 2147483629 by decide), ?_⟩⟩
      refine ⟨_, _, rfl, rfl, _, rfl, t, _, _, _, rfl, rfl, SqL.of hT1, rfl, _, _, rfl, rfl, .inr (by decide), _, _, rfl, rfl, .inl ⟨_, rfl, _, _, rfl, rfl, (show (0 : Int) < 2147483647 by decide), ?_⟩⟩
      have b1 : ∀ z : Int, 0 ≤ z % 2147483647 ∧ z % 2147483647 < 2147483647 := fun z => by omega
      have b2 : ∀ z : Int, 0 ≤ z % 2147483399 ∧ z % 2147483399 < 2147483399 := fun z => by omega
      refine ⟨_, rfl, _, rfl, _, _, rfl, rfl, ⟨by decide, by decide⟩, _, _, rfl, rfl, _, _, rfl, rfl, .inl ⟨Int.lt_of_lt_of_le (by decide) (b1 _).1, Int.lt_trans (b1 _).2 (by decide)⟩, .inl ⟨_, rfl, _, _, rfl, rfl, (show (0 : Int) < 2147483399 by decide), ?_⟩⟩
      refine ⟨_, rfl, _, rfl, t, _, _, 3, rfl, rfl, hT1, rfl, ?_⟩
      refine ⟨_, rfl, _, _, rfl, rfl, ⟨by decide, by decide⟩, .inl ⟨_, rfl, _, rfl, _, _, rfl, rfl, s0, ?_⟩⟩
      exact q _ _ (Int.emod_nonneg _ (by omega)) (Int.emod_lt_of_pos _ s0) (goU (fun b o nb e => by rw [upd_ne nb]; exact k1 b o nb e) upd_same ⟨_, _, _, _, rfl, hp', (b2 _).1, Int.lt_trans (b2 _).2 (by decide)⟩)

theorem ok_law_tape (T : Tx K mg fI fI_TooLong fI_Finished fI_NothingDone c_MadeError c_BadRow c_BadThing c_BadForm c_BadSign c_TooLong c_Finished c_NothingDone c_Rules c_Program c_Machine) (D : Dx K mg "_law_tape" s_law_tape ["script"]) : Pr P w K mg base 1 "_law_tape" ["script"] (spTape K) := by
  refine D.pr sc_law_tape (fun vs H Q E h => ?_) (fun f cdv A outer s H vs Q E hr h => ⟨_,
      (pss_one (ps_ret (pe_lst (pa_cons (pe_callTy call_list_of (by rfl) T.n.n_list (by decide +kernel) (pa_cons (pv 0) pa_nil)) (pa_cons pe_int (pa_cons pe_int (pa_cons pe_int (pa_cons pe_int pa_nil)))))))), ?_⟩)
  · obtain ⟨a, ns, rfl, _⟩ := h
    rfl
  obtain ⟨a, ns, rfl, hS, hl, q⟩ := h
  refine ⟨_, rfl, a, _, rfl, .inl hS, fun l nl => ⟨by show 5 ≤ sizeLine; decide, fun p np => ?_⟩⟩
  have nlp : l ≠ p := fun e => by
    rw [← e, upd_same] at np
    cases np
  have np' : H p = none := (same_new nl).free np
  refine q p l _ np' ((same_new nl).trans (same_new np)) ⟨_, upd_same, ns, 0, 0, 1, 0, rfl, ?_, by omega, by omega, by omega⟩
  rw [upd_ne nlp, upd_same]

theorem ok_is_whole (T : Tx K mg fI fI_TooLong fI_Finished fI_NothingDone c_MadeError c_BadRow c_BadThing c_BadForm c_BadSign c_TooLong c_Finished c_NothingDone c_Rules c_Program c_Machine) (D : Dx K mg "is_whole" s_is_whole ["value"]) : Pr P w K mg base 1 "is_whole" ["value"] (spD K dWhole) := by
  refine D.pr sc_is_whole (fun vs H Q E h => ?_) (fun f cdv A outer s H vs Q E hr h => ⟨_,
      (pss_one (ps_ret (pe_and (pe_callB call_isi (by rfl) T.n.n_isinstance (by decide +kernel) (pa_cons (pv 0) (pa_cons (pe_ty "int" T.n.n_int) pa_nil))) (pe_one (pe_not (pe_callB call_isi (by rfl) T.n.n_isinstance (by decide +kernel) (pa_cons (pv 0) (pa_cons (pe_ty "bool" T.n.n_bool) pa_nil)))))))), ?_⟩)
  · obtain ⟨v, d, rfl, _⟩ := h
    rfl
  obtain ⟨v, d, rfl, hd, q⟩ := h
  refine ⟨_, rfl, _, _, _, _, _, rfl, .ty "int", hd.ty, is_int d, _, rfl, ?_⟩
  cases e : dInt d with
  | false =>
    have ew : dWhole d = false := by cases d <;> first | rfl | cases e
    exact iteF (by have z := q H (.refl H); rw [ew] at z; exact z)
  | true =>
    refine iteT ⟨_, rfl, _, _, _, _, _, rfl, .ty "bool", hd.ty, is_bool d, _, rfl, ?_⟩
    have ew : dWhole d = !dBool d := by cases d <;> first | rfl | cases e
    have z := q H (.refl H)
    rw [ew] at z
    exact z

theorem ok_is_sign (T : Tx K mg fI fI_TooLong fI_Finished fI_NothingDone c_MadeError c_BadRow c_BadThing c_BadForm c_BadSign c_TooLong c_Finished c_NothingDone c_Rules c_Program c_Machine) (D : Dx K mg "is_sign" s_is_sign ["value"]) (C_is_whole : Pr P w K mg base 1 "is_whole" ["value"] (spD K dWhole)) : Pr P w K mg base 2 "is_sign" ["value"] (spD K dSign) := by
  refine D.pr sc_is_sign (fun vs H Q E h => ?_) (fun f cdv A outer s H vs Q E hr h => ⟨_,
      (pss_one (ps_ret (pe_and (pe_callP C_is_whole (hr.mono (by decide)) (by rfl) (passes_call (takes_of rfl rfl rfl rfl) fun _ _ _ _ z => z) (pa_cons (pv 0) pa_nil)) (pe_one (pe_chain op_le op_lt pe_int (pv 0) (pe_cst T.c_SIGNS)))))), ?_⟩)
  · obtain ⟨v, d, rfl, _⟩ := h
    rfl
  obtain ⟨v, d, rfl, hd, q⟩ := h
  refine ⟨_, rfl, _, d, rfl, hd, fun H1 s1 => ⟨_, rfl, ?_⟩⟩
  cases d with
  | int i =>
    cases hd
    refine iteT ⟨_, rfl, _, _, rfl, rfl, _, rfl, ?_⟩
    have z := q H1 s1
    by_cases c : (0 : Int) ≤ i
    · rw [decide_eq_true c]
      refine iteT ⟨_, _, rfl, rfl, ?_⟩
      have e : dSign (.int i) = decide (i < 100) := by
        show (decide (0 ≤ i) && decide (i < 100)) = _
        rw [decide_eq_true c, Bool.true_and]
      rw [e] at z
      exact z
    · rw [decide_eq_false c]
      refine iteF ?_
      have e : dSign (.int i) = false := by
        show (decide (0 ≤ i) && decide (i < 100)) = _
        rw [decide_eq_false c, Bool.false_and]
      rw [e] at z
      exact z
  | _ => exact iteF (q H1 s1)

theorem ok_is_form (T : Tx K mg fI fI_TooLong fI_Finished fI_NothingDone c_MadeError c_BadRow c_BadThing c_BadForm c_BadSign c_TooLong c_Finished c_NothingDone c_Rules c_Program c_Machine) (D : Dx K mg "is_form" s_is_form ["value"]) (C_is_whole : Pr P w K mg base 1 "is_whole" ["value"] (spD K dWhole)) : Pr P w K mg base 2 "is_form" ["value"] (spD K dForm) := by
  refine D.pr sc_is_form (fun vs H Q E h => ?_) (fun f cdv A outer s H vs Q E hr h => ⟨_,
      (pss_one (ps_ret (pe_and (pe_callP C_is_whole (hr.mono (by decide)) (by rfl) (passes_call (takes_of rfl rfl rfl rfl) fun _ _ _ _ z => z) (pa_cons (pv 0) pa_nil)) (pe_one (pe_chain op_le op_lt pe_int (pv 0) (pe_cst T.c_FORMS)))))), ?_⟩)
  · obtain ⟨v, d, rfl, _⟩ := h
    rfl
  obtain ⟨v, d, rfl, hd, q⟩ := h
  refine ⟨_, rfl, _, d, rfl, hd, fun H1 s1 => ⟨_, rfl, ?_⟩⟩
  cases d with
  | int i =>
    cases hd
    refine iteT ⟨_, rfl, _, _, rfl, rfl, _, rfl, ?_⟩
    have z := q H1 s1
    by_cases c : (0 : Int) ≤ i
    · rw [decide_eq_true c]
      refine iteT ⟨_, _, rfl, rfl, ?_⟩
      have e : dForm (.int i) = decide (i < 5) := by
        show (decide (0 ≤ i) && decide (i < 5)) = _
        rw [decide_eq_true c, Bool.true_and]
      rw [e] at z
      exact z
    · rw [decide_eq_false c]
      refine iteF ?_
      have e : dForm (.int i) = false := by
        show (decide (0 ≤ i) && decide (i < 5)) = _
        rw [decide_eq_false c, Bool.false_and]
      rw [e] at z
      exact z
  | _ => exact iteF (q H1 s1)

theorem ok_is_row (T : Tx K mg fI fI_TooLong fI_Finished fI_NothingDone c_MadeError c_BadRow c_BadThing c_BadForm c_BadSign c_TooLong c_Finished c_NothingDone c_Rules c_Program c_Machine) (D : Dx K mg "is_row" s_is_row ["value"]) : Pr P w K mg base 3 "is_row" ["value"] (spD K dRow) := by
  refine D.pr sc_is_row (fun vs H Q E h => ?_) (fun f cdv A outer s H vs Q E hr h => ⟨_,
      (pss_cons (ps_if (pt_not (pt_val (pe_callB call_isiT (by rfl) T.n.n_isinstance (by decide +kernel) (pa_cons (pv 0) (pa_cons (pe_tup (pa_cons (pe_ty "list" T.n.n_list) (pa_cons (pe_ty "tuple" T.n.n_tuple) pa_nil))) pa_nil)))))
        (pss_one (ps_ret pe_bl))
        pss_nil)
      (pss_cons (ps_for (passes_of rfl) rfl (pi_seq (pv 0)) (pg_name (i := 1) sc_is_row.nd rfl (Or.inl rfl))
        (pss_one (ps_if (PW.pt (pw_or (pt_not (pt_val (pe_callB call_isi (by rfl) T.n.n_isinstance (by decide +kernel) (pa_cons (pv 1) (pa_cons (pe_ty "int" T.n.n_int) pa_nil))))) (pw_or (pt_val (pe_callB call_isi (by rfl) T.n.n_isinstance (by decide +kernel) (pa_cons (pv 1) (pa_cons (pe_ty "bool" T.n.n_bool) pa_nil)))) (pw_or1 (pt_not (pt_chain op_le op_lt pe_int (pv 1) (pe_cst T.c_SIGNS)))))))
          (pss_one (ps_ret pe_bl))
          pss_nil)))
      (pss_one (ps_ret pe_bl)))), ?_⟩)
  · obtain ⟨v, d, rfl, _⟩ := h
    rfl
  obtain ⟨v, d, rfl, hd, q⟩ := h
  refine ⟨_, rfl, by show 2 ≤ sizeLine; decide, fun p np => ?_⟩
  have sp1 : Same H (upd H p (.tup [.ty "list", .ty "tuple"])) := same_new np
  refine ⟨_, p, _, _, _, _, rfl, upd_same, .cons (.ty "list") (.cons (.ty "tuple") .nil), (hd.keep sp1).ty, is_seq d, _, rfl, ?_⟩
  generalize upd H p (.tup [.ty "list", .ty "tuple"]) = H1 at sp1 ⊢
  cases e : dSeq d with
  | false =>
    refine iteT ?_
    have ew : dRow d = false := by unfold dRow; rw [e]; rfl
    have z := q H1 sp1
    rw [ew] at z
    exact z
  | true =>
    refine iteF ?_
    obtain ⟨a, xs, b, rfl, ha, hb, _⟩ := hd.seq e
    refine ⟨_, rfl, for_seq (xs := xs) b (fun i σ H' => ∃ y, σ = [some (.ref a), y] ∧ Same H H' ∧ ∀ j x, j < i → (dItems d)[j]? = some x → dSign x = true) ⟨none, rfl, sp1, fun j x hj => absurd hj (Nat.not_lt_zero _)⟩ (fun i σ H' _ ⟨_, _, s', _⟩ => hb.keep s') ?_ ?_⟩
    · rintro i x σ H' hx ⟨y, rfl, s', hs⟩
      obtain ⟨dx, e1, hdx⟩ := ha.get hx
      have tx := (hdx.keep s').ty
      have yes : dSign dx = true → ∃ y, [some (V.ref a), some x] = [some (V.ref a), y] ∧ Same H H' ∧ ∀ j z, j < i + 1 → (dItems d)[j]? = some z → dSign z = true := fun ed => ⟨_, rfl, s', fun j z hj ez => by
        by_cases c : j = i
        · rw [c, e1] at ez
          cases ez
          exact ed
        · exact hs j z (by omega) ez⟩
      have no : dSign dx = false → Q (.bl false) H' := fun ed => by
        have ew : dRow d = false := by unfold dRow; rw [e, not_all e1 ed]; rfl
        have z := q H' s'
        rw [ew] at z
        exact z
      refine ⟨_, rfl, _, _, _, _, _, rfl, .ty "int", tx, is_int dx, _, rfl, ?_⟩
      cases dx with
      | bool b => exact iteF ⟨_, rfl, _, _, _, _, _, rfl, .ty "bool", tx, is_bool (.bool b), _, rfl, iteT (no rfl)⟩
      | int k =>
        cases hdx
        refine iteF ⟨_, rfl, _, _, _, _, _, rfl, .ty "bool", tx, is_bool (.int k), _, rfl, ?_⟩
        refine iteF ⟨_, rfl, _, _, rfl, rfl, _, rfl, ?_⟩
        by_cases c : (0 : Int) ≤ k
        · rw [decide_eq_true c]
          refine iteT ⟨_, _, rfl, rfl, _, rfl, ?_⟩
          by_cases c2 : k < 100
          · rw [decide_eq_true c2]
            refine iteF (yes ?_)
            show (decide (0 ≤ k) && decide (k < 100)) = true
            rw [decide_eq_true c, decide_eq_true c2]
            rfl
          · rw [decide_eq_false c2]
            refine iteT (no ?_)
            show (decide (0 ≤ k) && decide (k < 100)) = false
            rw [decide_eq_false c2, Bool.and_false]
        · rw [decide_eq_false c]
          refine iteF ⟨_, rfl, iteT (no ?_)⟩
          show (decide (0 ≤ k) && decide (k < 100)) = false
          rw [decide_eq_false c, Bool.false_and]
      | _ => exact iteT (no rfl)
    · rintro σ H' ⟨y, rfl, s', hs⟩
      have ew : dRow d = true := by
        unfold dRow
        rw [e, Bool.true_and]
        exact all_at fun i x ex => hs i x (by rw [ha.len]; exact (List.getElem?_eq_some_iff.mp ex).1) ex
      have z := q H' s'
      rw [ew] at z
      exact z

theorem ok_shifted (T : Tx K mg fI fI_TooLong fI_Finished fI_NothingDone c_MadeError c_BadRow c_BadThing c_BadForm c_BadSign c_TooLong c_Finished c_NothingDone c_Rules c_Program c_Machine) (D : Dx K mg "shifted" s_shifted ["row", "by"]) : Pr P w K mg base 1 "shifted" ["row", "by"] (spShifted K) := by
  refine D.pr sc_shifted (fun vs H Q E h => ?_) (fun f cdv A outer s H vs Q E hr h => ⟨_,
      (pss_one (ps_ret (pe_callTy call_tuple_of (by rfl) T.n.n_tuple (by decide +kernel) (pa_cons (pe_lc (own := [("sign", 2)]) (g := gName 2) (tt := tYes) rfl sc_shifted.nd (pi_seq (pv 0)) (blkOk_by (N := ["row", "by", "sign"]) (sc := defScope s_shifted) (by decide +kernel)) (fun _ _ _ _ _ => pg_name (i := 2) sc_shifted.nd rfl (Or.inl rfl)) (fun _ _ _ _ _ => pts_nil) (fun _ _ _ _ _ => (pe_op op_mod (pe_op op_add (pv 2) (pv 1)) (pe_cst T.c_SIGNS)))) pa_nil)))), ?_⟩)
  · obtain ⟨a, ns, b, by_, rfl, _⟩ := h
    rfl
  obtain ⟨a, ns, b, by_, rfl, hb, hl, q⟩ := h
  refine st_ret1 (cb1 (lc_seq (a := a) (xs := ns.map V.int) (go_var rfl) b hb (fun _ => rfl) fun D nD => ⟨fun i H' => Same H H' ∧ H' D = some (.lst ((shiftI by_ (ns.take i)).map V.int)), ⟨same_new nD, upd_same⟩, fun i H' _ h => hb.keep h.1, ?_, ?_⟩))
  · rintro i x H' hx ⟨s', hD⟩
    rw [List.getElem?_map] at hx
    cases hn : ns[i]? with
    | none => rw [hn] at hx; cases hx
    | some z =>
      rw [hn] at hx
      cases hx
      refine ⟨_, rfl, _, rfl, _, _, rfl, rfl, _, _, rfl, rfl, (show (0 : Int) < 100 by decide), _, hD, ?_, ?_⟩
      · have hle : ((shiftI by_ (ns.take i)).map V.int).length ≤ 1000000 := by
          unfold shiftI
          rw [List.length_map, List.length_map, List.length_take]
          omega
        exact Nat.lt_of_le_of_lt hle (by decide)
      · refine ⟨same_mut s' nD, ?_⟩
        rw [upd_same, List.take_add_one, hn]
        unfold shiftI
        rw [List.map_append, List.map_append]
        rfl
  · rintro H' ⟨s', hD⟩
    rw [List.length_map, List.take_length] at hD
    exact ⟨D, _, rfl, .inl ⟨SqL.of hD, fun p np => q p _ (s'.trans (same_new np)) upd_same⟩⟩

theorem ok_is_thing (T : Tx K mg fI fI_TooLong fI_Finished fI_NothingDone c_MadeError c_BadRow c_BadThing c_BadForm c_BadSign c_TooLong c_Finished c_NothingDone c_Rules c_Program c_Machine) (D : Dx K mg "is_thing" s_is_thing ["row"]) (C_is_row : Pr P w K mg base 3 "is_row" ["value"] (spD K dRow)) (C_is_form : Pr P w K mg base 2 "is_form" ["value"] (spD K dForm)) : Pr P w K mg base 4 "is_thing" ["row"] (spD K dThing) := by
  refine D.pr sc_is_thing (fun vs H Q E h => ?_) (fun f cdv A outer s H vs Q E hr h => ⟨_,
      (pss_one (ps_ret (pe_and (pe_callP C_is_row (hr.mono (by decide)) (by rfl) (passes_call (takes_of rfl rfl rfl rfl) fun _ _ _ _ z => z) (pa_cons (pv 0) pa_nil)) (pe_and (pe_cmpR op_ge (pe_callB call_len (by rfl) T.n.n_len (by decide +kernel) (pa_cons (pv 0) pa_nil)) pe_int (nomark _)) (pe_one (pe_callP C_is_form (hr.mono (by decide)) (by rfl) (passes_call (takes_of rfl rfl rfl rfl) fun _ _ _ _ z => z) (pa_cons (pe_ix ix_seq (pv 0) pe_int (fun _ _ => rfl)) pa_nil))))))), ?_⟩)
  · obtain ⟨v, d, rfl, _⟩ := h
    rfl
  obtain ⟨v, d, rfl, hd, q⟩ := h
  refine ⟨_, rfl, _, d, rfl, hd, fun H1 s1 => ⟨_, rfl, ?_⟩⟩
  cases er : dRow d with
  | false =>
    have ew : dThing d = false := by unfold dThing; rw [er]; rfl
    have z := q H1 s1
    rw [ew] at z
    exact iteF z
  | true =>
    have es : dSeq d = true := (Bool.and_eq_true_iff.mp er).1
    obtain ⟨a, xs, b, rfl, ha, hb, _⟩ := hd.seq es
    have hb1 : SqB K H1 a xs b := hb.keep s1
    refine iteT ⟨_, rfl, _, xs.length, rfl, ?_, _, _, rfl, rfl, _, rfl, ?_⟩
    · cases b with
      | true => exact .inl ⟨xs, hb1, rfl⟩
      | false => exact .inr ⟨xs, hb1, rfl⟩
    have hlen := ha.len
    by_cases c : 2 ≤ xs.length
    · rw [decide_eq_true (show (2 : Int) ≤ (xs.length : Int) by omega)]
      obtain ⟨x, xr, rfl⟩ : ∃ x xr, xs = x :: xr := by
        cases xs with
        | nil => cases c
        | cons x xr => exact ⟨x, xr, rfl⟩
      obtain ⟨y, ey, hy⟩ := ha.get (i := 0) (v := x) rfl
      have ix : rIx K (.ref a) (.int 0) H1 (fun v H2 => spD K dForm [v] H2 Q E) := by
        have at0 : atI (x :: xr) (0 : Int) = some x := atI_nat (j := 0) rfl
        have go : spD K dForm [x] H1 Q E := ⟨x, y, rfl, hy.keep s1, fun H2 s2 => by
          have z := q H2 (s1.trans s2)
          have ew : dThing d = dForm y := by
            unfold dThing
            rw [er, Bool.true_and]
            cases ed : dItems d with
            | nil => rw [ed] at ey; cases ey
            | cons d0 dr =>
              rw [ed] at ey hlen
              cases ey
              rw [decide_eq_true (show 2 ≤ (y :: dr).length by rw [← hlen]; exact c), Bool.true_and]
          rw [ew] at z
          exact z⟩
        cases b with
        | true => exact .inl ⟨a, _, _, x, rfl, rfl, hb1, at0, go⟩
        | false => exact .inr (.inl ⟨a, _, _, x, rfl, rfl, hb1, at0, go⟩)
      exact iteT ⟨_, rfl, ix⟩
    · rw [decide_eq_false (show ¬ (2 : Int) ≤ (xs.length : Int) by omega)]
      have ew : dThing d = false := by
        unfold dThing
        rw [← hlen, decide_eq_false c, Bool.false_and, Bool.and_false]
      have z := q H1 s1
      rw [ew] at z
      exact iteF z

theorem ok_form_of (T : Tx K mg fI fI_TooLong fI_Finished fI_NothingDone c_MadeError c_BadRow c_BadThing c_BadForm c_BadSign c_TooLong c_Finished c_NothingDone c_Rules c_Program c_Machine) (D : Dx K mg "form_of" s_form_of ["thing"]) (C_is_thing : Pr P w K mg base 4 "is_thing" ["row"] (spD K dThing)) (C_init : InitOk P w K mg base 1 fI) : Pr P w K mg base 5 "form_of" ["thing"] (spThing1 K c_BadThing dFst) := by
  refine D.pr sc_form_of (fun vs H Q E h => ?_) (fun f cdv A outer s H vs Q E hr h => ⟨_,
      (pss_cons (ps_if (pt_not (pt_val (pe_callP C_is_thing (hr.mono (by decide)) (by rfl) (passes_call (takes_of rfl rfl rfl rfl) fun _ _ _ _ z => z) (pa_cons (pv 0) pa_nil))))
        (pss_one (ps_raise rfl (takes_of rfl rfl rfl rfl) (pmk_made T.x_BadThing C_init (hr.mono (by decide)) (passes_call (takes_of rfl rfl rfl rfl) fun _ _ _ _ z => z.elim) (by rfl) (pv 0))))
        pss_nil)
      (pss_one (ps_ret (pe_ix ix_seq (pv 0) pe_int (fun _ _ => rfl))))), ?_⟩)
  · unfold spThing1 at h
    obtain ⟨v, d, rfl, _⟩ := h
    rfl
  unfold spThing1 at h
  obtain ⟨v, d, rfl, hd, q, qe⟩ := h
  refine ⟨_, rfl, v, d, rfl, hd, fun H1 s1 => ⟨_, rfl, ?_⟩⟩
  cases e : dThing d with
  | false => exact iteT ⟨_, rfl, fun dd n => (qe e).new s1 n⟩
  | true =>
    refine iteF ?_
    obtain ⟨er, fo, nu, r, en, _⟩ := thing_parts e
    obtain ⟨a, b, rfl, hb, _⟩ := hd.row er
    rw [en] at hb
    have z := q e H1 s1
    have hb1 := hb.keep s1
    have ez : dFst d = fo := by unfold dFst; rw [en]; rfl
    rw [ez] at z
    cases b with
    | true => exact ⟨_, rfl, .inl ⟨a, _, _, _, rfl, rfl, hb1, atI_nat (j := 0) rfl, z⟩⟩
    | false => exact ⟨_, rfl, .inr (.inl ⟨a, _, _, _, rfl, rfl, hb1, atI_nat (j := 0) rfl, z⟩)⟩

theorem ok_body_of (T : Tx K mg fI fI_TooLong fI_Finished fI_NothingDone c_MadeError c_BadRow c_BadThing c_BadForm c_BadSign c_TooLong c_Finished c_NothingDone c_Rules c_Program c_Machine) (D : Dx K mg "body_of" s_body_of ["thing"]) (C_form_of : Pr P w K mg base 5 "form_of" ["thing"] (spThing1 K c_BadThing dFst)) (C_shifted : Pr P w K mg base 1 "shifted" ["row", "by"] (spShifted K)) : Pr P w K mg base 6 "body_of" ["thing"] (spBodyOf K c_BadThing) := by
  refine D.pr sc_body_of (fun vs H Q E h => ?_) (fun f cdv A outer s H vs Q E hr h => ⟨_,
      (pss_cons (ps_set (i := 1) sc_body_of.nd rfl (Or.inl rfl) (pe_callP C_form_of (hr.mono (by decide)) (by rfl) (passes_call (takes_of rfl rfl rfl rfl) fun _ _ _ _ z => z) (pa_cons (pv 0) pa_nil)))
      (pss_one (ps_ret (pe_callP C_shifted (hr.mono (by decide)) (by rfl) (passes_call (takes_of rfl rfl rfl rfl) fun _ _ _ _ z => z) (pa_cons (pe_slice sl_any (pv 0) (po_some pe_int) po_none) (pa_cons (pe_op op_mul (pe_un un_neg (pe_cst T.c_SHIFT)) (pv 1)) pa_nil)))))), ?_⟩)
  · unfold spBodyOf at h
    obtain ⟨v, d, rfl, _⟩ := h
    rfl
  unfold spBodyOf at h
  obtain ⟨v, d, rfl, hd, hl, q, qe⟩ := h
  refine ⟨_, rfl, spThing1_of hd (fun e H1 s1 => ?_) (fun e => qe e)⟩
  obtain ⟨er, fo, nu, r, en, _⟩ := thing_parts e
  obtain ⟨a, b, rfl, hb, _⟩ := hd.row er
  have hb1 := hb.keep s1
  have hlen : (dInts d).length ≤ 1000000 := by rw [dInts_len]; exact hl
  have ecut : cutV ((dInts d).map V.int) (some 2) none = ((dInts d).drop 2).map V.int := by
    unfold cutV
    rw [show HT.sIx ((dInts d).map V.int).length 0 (some 2) = min 2 ((dInts d).map V.int).length from HT.sIx_nat _ 0 2, HT.sIx_none, List.length_map, en]
    show List.take _ ((r.map V.int)) = r.map V.int
    apply List.take_of_length_le
    simp
  have fin : ∀ (p : Addr) (H2 : Hp), Same H1 H2 → SqB K H2 p (((dInts d).drop 2).map V.int) b → spShifted K [.ref p, .int (-20 * dFst d)] H2 Q E := fun p H2 s2 h2 =>
    ⟨p, (dInts d).drop 2, b, _, rfl, h2, by rw [List.length_drop]; omega, fun p' H3 s3 e3 => q e p' H3 ((s1.trans s2).trans s3) e3⟩
  refine ⟨_, rfl, 2, rfl, ?_⟩
  cases b with
  | true =>
    refine .inl ⟨a, _, rfl, hb1, fun p np => ?_⟩
    refine ⟨_, rfl, _, rfl, _, _, rfl, rfl, .inl (by decide), fin p _ (same_new np) ?_⟩
    exact SqL.of (by rw [upd_same, ecut])
  | false =>
    refine .inr ⟨a, _, rfl, hb1, fun ⟨z, _⟩ => ?_, fun _ p np => ?_⟩
    · rw [show HT.sIx ((dInts d).map V.int).length 0 (some 2) = min 2 ((dInts d).map V.int).length from HT.sIx_nat _ 0 2, List.length_map, en] at z
      simp at z
    · refine ⟨_, rfl, _, rfl, _, _, rfl, rfl, .inl (by decide), fin p _ (same_new np) ?_⟩
      exact SqT.of (by rw [upd_same, ecut])

theorem ok_thing_of (T : Tx K mg fI fI_TooLong fI_Finished fI_NothingDone c_MadeError c_BadRow c_BadThing c_BadForm c_BadSign c_TooLong c_Finished c_NothingDone c_Rules c_Program c_Machine) (D : Dx K mg "thing_of" s_thing_of ["form", "number", "body"]) (C_is_form : Pr P w K mg base 2 "is_form" ["value"] (spD K dForm)) (C_is_sign : Pr P w K mg base 2 "is_sign" ["value"] (spD K dSign)) (C_is_row : Pr P w K mg base 3 "is_row" ["value"] (spD K dRow)) (C_shifted : Pr P w K mg base 1 "shifted" ["row", "by"] (spShifted K)) (C_init : InitOk P w K mg base 1 fI) : Pr P w K mg base 4 "thing_of" ["form", "number", "body"] (spThingOf K c_BadForm c_BadSign c_BadRow) := by
  refine D.pr sc_thing_of (fun vs H Q E h => ?_) (fun f cdv A outer s H vs Q E hr h => ⟨_,
      (pss_cons (ps_if (pt_not (pt_val (pe_callP C_is_form (hr.mono (by decide)) (by rfl) (passes_call (takes_of rfl rfl rfl rfl) fun _ _ _ _ z => z) (pa_cons (pv 0) pa_nil))))
        (pss_one (ps_raise rfl (takes_of rfl rfl rfl rfl) (pmk_made T.x_BadForm C_init (hr.mono (by decide)) (passes_call (takes_of rfl rfl rfl rfl) fun _ _ _ _ z => z.elim) (by rfl) (pv 0))))
        pss_nil)
      (pss_cons (ps_if (pt_not (pt_val (pe_callP C_is_sign (hr.mono (by decide)) (by rfl) (passes_call (takes_of rfl rfl rfl rfl) fun _ _ _ _ z => z) (pa_cons (pv 1) pa_nil))))
        (pss_one (ps_raise rfl (takes_of rfl rfl rfl rfl) (pmk_made T.x_BadSign C_init (hr.mono (by decide)) (passes_call (takes_of rfl rfl rfl rfl) fun _ _ _ _ z => z.elim) (by rfl) (pv 1))))
        pss_nil)
      (pss_cons (ps_if (pt_not (pt_val (pe_callP C_is_row (hr.mono (by decide)) (by rfl) (passes_call (takes_of rfl rfl rfl rfl) fun _ _ _ _ z => z) (pa_cons (pv 2) pa_nil))))
        (pss_one (ps_raise rfl (takes_of rfl rfl rfl rfl) (pmk_made T.x_BadRow C_init (hr.mono (by decide)) (passes_call (takes_of rfl rfl rfl rfl) fun _ _ _ _ z => z.elim) (by rfl) (pv 2))))
        pss_nil)
      (pss_one (ps_ret (pe_op op_catA (pe_tup (pa_cons (pv 0) (pa_cons (pv 1) pa_nil))) (pe_callP C_shifted (hr.mono (by decide)) (by rfl) (passes_call (takes_of rfl rfl rfl rfl) fun _ _ _ _ z => z) (pa_cons (pv 2) (pa_cons (pe_op op_mul (pe_cst T.c_SHIFT) (pv 0)) pa_nil))))))))), ?_⟩)
  · unfold spThingOf at h
    obtain ⟨v1, v2, v3, d1, d2, d3, rfl, _⟩ := h
    rfl
  unfold spThingOf at h
  obtain ⟨v1, v2, v3, d1, d2, d3, rfl, h1, h2, h3, hl, q, qf, qs, qr⟩ := h
  refine ⟨_, rfl, v1, d1, rfl, h1, fun H1 s1 => ⟨_, rfl, ?_⟩⟩
  cases e1 : dForm d1 with
  | false => exact iteT ⟨_, rfl, fun dd n => (qf e1).new s1 n⟩
  | true =>
  refine iteF ⟨_, rfl, v2, d2, rfl, h2.keep s1, fun H2 s2 => ⟨_, rfl, ?_⟩⟩
  have s02 := s1.trans s2
  cases e2 : dSign d2 with
  | false => exact iteT ⟨_, rfl, fun dd n => (qs e1 e2).new s02 n⟩
  | true =>
  refine iteF ⟨_, rfl, v3, d3, rfl, h3.keep s02, fun H3 s3 => ⟨_, rfl, ?_⟩⟩
  have s03 := s02.trans s3
  cases e3 : dRow d3 with
  | false => exact iteT ⟨_, rfl, fun dd n => (qr e1 e2 e3).new s03 n⟩
  | true =>
  refine iteF ?_
  have z := q e1 e2 e3
  cases d1 with
  | int f =>
    cases d2 with
    | int n =>
      cases h1
      cases h2
      obtain ⟨a, b, rfl, hb, _⟩ := h3.row e3
      refine ⟨_, rfl, _, rfl, by show 2 ≤ sizeLine; decide, fun p np => ?_⟩
      have s4 := s03.trans (same_new (o := .tup [.int f, .int n]) np)
      have ep : upd H3 p (.tup [V.int f, V.int n]) p = some (.tup [V.int f, V.int n]) := upd_same
      refine ⟨_, rfl, _, rfl, _, _, rfl, rfl, .inl (by decide), a, dInts d3, b, _, rfl, hb.keep s4, by rw [dInts_len]; exact hl, fun p2 H5 s5 e5 => ?_⟩
      have ep5 := s5 _ _ ep
      refine ⟨p, p2, _, _, rfl, rfl, SqT.of ep5, SqT.of e5, ?_, fun h => (by cases h), fun _ hn => ?_, fun _ hn p3 np3 => z p3 _ ((s4.trans s5).trans (same_new np3)) upd_same⟩
      · have hle : ([V.int f, V.int n] : List V).length + ((shiftI (20 * f) (dInts d3)).map V.int).length ≤ 1000002 := by
          unfold shiftI
          rw [List.length_map, List.length_map, dInts_len]
          show 2 + _ ≤ _
          omega
        exact Nat.le_trans hle (by decide)
      · refine z p _ (s4.trans s5) ?_
        have e0 : shiftI (20 * f) (dInts d3) = [] := List.map_eq_nil_iff.mp hn
        show H5 p = some (.tup (V.int f :: V.int n :: (shiftI (20 * f) (dInts d3)).map V.int))
        rw [e0]
        exact ep5
    | _ => cases e2
  | _ => cases e1

theorem ok_item_at (T : Tx K mg fI fI_TooLong fI_Finished fI_NothingDone c_MadeError c_BadRow c_BadThing c_BadForm c_BadSign c_TooLong c_Finished c_NothingDone c_Rules c_Program c_Machine) (D : Dx K mg "item_at" s_item_at ["body", "at"]) : Pr P w K mg base 1 "item_at" ["body", "at"] (spItemAt K) := by
  refine D.pr sc_item_at (fun vs H Q E h => ?_) (fun f cdv A outer s H vs Q E hr h => ⟨_,
      (pss_cons (ps_set (i := 2) sc_item_at.nd rfl (Or.inl rfl) (pe_slice sl_tupA (pv 0) (po_some (pv 1)) (po_some (pe_op op_add (pv 1) pe_int))))
      (Evl.pss_cut (ps_if (PW.pt (pw_and (pt_cmpR op_ge (pe_callB call_len (by rfl) T.n.n_len (by decide +kernel) (pa_cons (pv 2) pa_nil)) pe_int (nomark _)) (pw_and1 (pt_cmpR op_eq (pe_ix ix_tup (pv 2) pe_int (fun _ _ => rfl)) pe_int (nomark _)))))
        (pss_cons (ps_set (i := 3) sc_item_at.nd rfl (Or.inl rfl) (pe_op op_add (pe_op op_add (pv 1) pe_int) (pe_ix ix_tup (pv 2) pe_int (fun _ _ => rfl))))
        (pss_one (ps_if (pt_cmpR op_le (pv 3) (pe_callB call_len (by rfl) T.n.n_len (by decide +kernel) (pa_cons (pv 0) pa_nil)) (nomark _))
          (pss_one (ps_ret (pe_tup (pa_cons (pe_tup (pa_cons pe_str (pa_cons (pe_slice sl_tupA (pv 0) (po_some (pe_op op_add (pv 1) pe_int)) (po_some (pv 3))) pa_nil))) (pa_cons (pv 3) pa_nil)))))
          pss_nil)))
        pss_nil)
      (pss_cons (ps_if (PW.pt (pw_and (pt_cmpR op_ge (pe_callB call_len (by rfl) T.n.n_len (by decide +kernel) (pa_cons (pv 2) pa_nil)) pe_int (nomark _)) (pw_and1 (pt_cmpR op_eq (pe_ix ix_tup (pv 2) pe_int (fun _ _ => rfl)) pe_int (nomark _)))))
        (pss_one (ps_ret (pe_tup (pa_cons (pe_tup (pa_cons pe_str (pa_cons (pe_ix ix_tup (pv 2) pe_int (fun _ _ => rfl)) pa_nil))) (pa_cons (pe_op op_add (pv 1) pe_int) pa_nil)))))
        pss_nil)
      (pss_cons (ps_if (PW.pt (pw_and (pt_cmpR op_eq (pe_callB call_len (by rfl) T.n.n_len (by decide +kernel) (pa_cons (pv 2) pa_nil)) pe_int (nomark _)) (pw_and1 (pt_cmpR op_eq (pe_ix ix_tup (pv 2) pe_int (fun _ _ => rfl)) pe_int (nomark _)))))
        (pss_one (ps_ret (pe_tup (pa_cons (pe_tup (pa_cons pe_str (pa_cons (pe_ix ix_tup (pv 2) pe_int (fun _ _ => rfl)) (pa_cons (pe_ix ix_tup (pv 2) pe_int (fun _ _ => rfl)) pa_nil)))) (pa_cons (pe_op op_add (pv 1) pe_int) pa_nil)))))
        pss_nil)
      (pss_one (ps_ret pe_non)))))), ?_⟩)
  · obtain ⟨b, bs, i, rfl, _⟩ := h
    rfl
  obtain ⟨b, bs, i, rfl, hb, hs, qn, qs⟩ := h
  refine ⟨_, rfl, _, rfl, _, rfl, _, rfl, _, _, rfl, rfl, _, rfl, slH hb fun ph H1 s1 e1 => ?_⟩
  have e0 : ((i : Int) + 3) = ((i + 3 : Nat) : Int) := by omega
  rw [e0, cut_nat, show i + 3 - i = 3 by omega, ← List.map_drop, ← List.map_take] at e1
  have hsd : Sgn (bs.drop i) := fun z hz => hs z (List.mem_of_mem_drop hz)
  have hbl : bs.drop i ≠ [] → bs.length = i + (bs.drop i).length := fun h => by
    by_cases c : i ≤ bs.length
    · rw [List.length_drop]
      omega
    · exact absurd (List.drop_eq_nil_of_le (by omega)) h
  have hb1 := s1 _ _ hb
  generalize hr0 : bs.drop i = r0 at e1 qn qs hsd hbl
  by_cases sm : r0.length ≤ 1
  · have en := itemOf_small sm
    have ln : ((r0.take 3).map V.int).length ≤ 1 := by rw [List.length_map]; exact Nat.le_trans (List.length_take_le' _ _) sm
    refine ⟨fun σ' H' => σ' = [some (.ref b), some (.int (i : Int)), some (.ref ph), none] ∧ H1 = H', ?_, ?_⟩
    · refine ⟨_, rfl, _, _, rfl, .inr ⟨_, SqT.of e1, rfl⟩, _, _, rfl, rfl, _, rfl, ?_⟩
      rw [decide_eq_false (show ¬ (2 : Int) ≤ (((r0.take 3).map V.int).length : Int) by omega)]
      exact iteF ⟨rfl, rfl⟩
    rintro σ' H2 ⟨rfl, rfl⟩
    refine ⟨_, rfl, _, _, rfl, .inr ⟨_, SqT.of e1, rfl⟩, _, _, rfl, rfl, _, rfl, ?_⟩
    rw [decide_eq_false (show ¬ (2 : Int) ≤ (((r0.take 3).map V.int).length : Int) by omega)]
    refine iteF ⟨_, rfl, _, _, rfl, .inr ⟨_, SqT.of e1, rfl⟩, rfl, _, rfl, ?_⟩
    rw [decide_eq_false (show ¬ V.int (((r0.take 3).map V.int).length : Int) = V.int 3 from fun z => by have y := V.int.inj z; omega)]
    exact iteF (qn H1 en s1)
  obtain ⟨x, y, r, rfl⟩ : ∃ x y r, r0 = x :: y :: r := by
    match r0, sm with
    | [], h => exact absurd (Nat.zero_le 1) h
    | [z], h => exact absurd (Nat.le_refl 1) h
    | x :: y :: r, _ => exact ⟨x, y, r, rfl⟩
  have hlen : bs.length = i + (r.length + 1 + 1) := hbl (fun z => nomatch z)
  have e1 : H1 ph = some (.tup ((x :: y :: r.take 1).map V.int)) := e1
  have hdr : bs.drop (i + 2) = r := by
    rw [← List.drop_drop, hr0]
    rfl
  have hy := hsd y (by simp)
  have two : (2 : Int) ≤ (((x :: y :: r.take 1).map V.int).length : Int) := by
    rw [List.length_map, List.length_cons, List.length_cons]
    omega
  refine ⟨fun σ' H' => (∃ y3, σ' = [some (.ref b), some (.int (i : Int)), some (.ref ph), y3]) ∧ H1 = H' ∧ (x = 0 → itemOf (x :: y :: r) = none), ?_, ?_⟩
  · refine ⟨_, rfl, _, _, rfl, .inr ⟨_, SqT.of e1, rfl⟩, _, _, rfl, rfl, _, rfl, ?_⟩
    rw [decide_eq_true two]
    refine iteT ⟨_, rfl, ph, _, 0, .int x, rfl, rfl, SqT.of e1, atI_nat (j := 0) rfl, rfl, _, rfl, ?_⟩
    by_cases c0 : x = 0
    · subst c0
      rw [decide_eq_true rfl]
      refine iteT ⟨_, rfl, _, _, rfl, rfl, _, rfl, ph, _, 1, .int y, rfl, rfl, SqT.of e1, atI_nat (j := 1) rfl, _, _, rfl, rfl, ?_⟩
      refine ⟨_, rfl, _, rfl, _, _, rfl, .inr ⟨_, SqT.of hb1, rfl⟩, _, _, rfl, rfl, _, rfl, ?_⟩
      rw [List.length_map]
      have ey : y = (y.toNat : Int) := by omega
      by_cases c : y.toNat ≤ r.length
      · rw [decide_eq_true (show (i : Int) + 2 + y ≤ (bs.length : Int) by omega)]
        have ei : itemOf (0 :: y :: r) = some (.put (r.take y.toNat), r.drop y.toNat) := if_pos c
        have e2 : (i : Int) + 2 = ((i + 2 : Nat) : Int) := by omega
        have e3 : (i : Int) + 2 + y = ((i + 2 + y.toNat : Nat) : Int) := by omega
        refine iteT ⟨_, rfl, _, rfl, _, _, rfl, rfl, _, rfl, _, rfl, _, rfl, slH hb1 fun pq H2 s2 eq => ?_⟩
        rw [e3, e2, cut_nat, show i + 2 + y.toNat - (i + 2) = y.toNat by omega, ← List.map_drop, ← List.map_take, hdr] at eq
        refine ⟨by show 2 ≤ sizeLine; decide, fun pt npt => ⟨_, rfl, by show 2 ≤ sizeLine; decide, fun p np => ?_⟩⟩
        have eE : ((bs.length - (r.drop y.toNat).length : Nat) : Int) = (i : Int) + 2 + y := by
          rw [List.length_drop]
          omega
        refine qs (.put (r.take y.toNat)) (r.drop y.toNat) p pt _ ei (((s1.trans s2).trans (same_new npt)).trans (same_new np)) ?_ ?_
        · rw [upd_same, eE]
        · exact .tup ((same_new np) _ _ upd_same) (.cons (.str "put") (.cons (.tup ((same_new np) _ _ ((same_new npt) _ _ eq)) (.ints _)) .nil))
      · rw [decide_eq_false (show ¬ (i : Int) + 2 + y ≤ (bs.length : Int) by omega)]
        exact iteF ⟨⟨_, rfl⟩, rfl, fun _ => if_neg c⟩
    · rw [decide_eq_false (fun z => c0 (V.int.inj z))]
      exact iteF ⟨⟨_, rfl⟩, rfl, fun z => absurd z c0⟩
  rintro σ' H2 ⟨⟨y3, rfl⟩, rfl, h0⟩
  refine ⟨_, rfl, _, _, rfl, .inr ⟨_, SqT.of e1, rfl⟩, _, _, rfl, rfl, _, rfl, ?_⟩
  rw [decide_eq_true two]
  refine iteT ⟨_, rfl, ph, _, 0, .int x, rfl, rfl, SqT.of e1, atI_nat (j := 0) rfl, rfl, _, rfl, ?_⟩
  by_cases c1 : x = 1
  · subst c1
    rw [decide_eq_true rfl]
    refine iteT ⟨_, rfl, ph, _, 1, .int y, rfl, rfl, SqT.of e1, atI_nat (j := 1) rfl, by show 2 ≤ sizeLine; decide, fun pt npt => ⟨_, rfl, _, _, rfl, rfl, by show 2 ≤ sizeLine; decide, fun p np => ?_⟩⟩
    have eE : ((bs.length - r.length : Nat) : Int) = (i : Int) + 2 := by omega
    refine qs (.plus y) r p pt _ rfl ((s1.trans (same_new npt)).trans (same_new np)) ?_ ?_
    · rw [upd_same, eE]
    · exact .tup ((same_new np) _ _ upd_same) (.cons (.str "plus") (.cons (.int y) .nil))
  rw [decide_eq_false (fun z => c1 (V.int.inj z))]
  refine iteF ⟨_, rfl, _, _, rfl, .inr ⟨_, SqT.of e1, rfl⟩, rfl, _, rfl, ?_⟩
  cases r with
  | nil =>
    rw [decide_eq_false (show ¬ V.int (((x :: y :: ([] : List Int).take 1).map V.int).length : Int) = V.int 3 from fun z => absurd (show (2 : Int) = 3 from V.int.inj z) (by decide))]
    refine iteF (qn H1 ?_ s1)
    by_cases c0 : x = 0
    · exact h0 c0
    · exact itemOf_else c0 c1 fun _ => rfl
  | cons z r =>
    rw [decide_eq_true (show V.int (((x :: y :: (z :: r).take 1).map V.int).length : Int) = V.int 3 from rfl)]
    refine iteT ⟨_, rfl, ph, _, 0, .int x, rfl, rfl, SqT.of e1, atI_nat (j := 0) rfl, rfl, _, rfl, ?_⟩
    by_cases c2 : x = 2
    · subst c2
      rw [decide_eq_true rfl]
      refine iteT ⟨_, rfl, ph, _, 1, .int y, rfl, rfl, SqT.of e1, atI_nat (j := 1) rfl, _, rfl, ph, _, 2, .int z, rfl, rfl, SqT.of e1, atI_nat (j := 2) rfl, by show 3 ≤ sizeLine; decide, fun pt npt => ⟨_, rfl, _, _, rfl, rfl, by show 2 ≤ sizeLine; decide, fun p np => ?_⟩⟩
      have eE : ((bs.length - r.length : Nat) : Int) = (i : Int) + 3 := by
        rw [List.length_cons] at hlen
        omega
      refine qs (.own y z) r p pt _ rfl ((s1.trans (same_new npt)).trans (same_new np)) ?_ ?_
      · rw [upd_same, eE]
      · exact .tup ((same_new np) _ _ upd_same) (.cons (.str "own") (.cons (.int y) (.cons (.int z) .nil)))
    · rw [decide_eq_false (fun z => c2 (V.int.inj z))]
      refine iteF (qn H1 ?_ s1)
      by_cases c0 : x = 0
      · exact h0 c0
      · exact itemOf_else c0 c1 fun z => absurd z c2

theorem ok_word_at (T : Tx K mg fI fI_TooLong fI_Finished fI_NothingDone c_MadeError c_BadRow c_BadThing c_BadForm c_BadSign c_TooLong c_Finished c_NothingDone c_Rules c_Program c_Machine) (D : Dx K mg "word_at" s_word_at ["body", "at"]) : Pr P w K mg base 1 "word_at" ["body", "at"] (spWordAt K) := by
  refine D.pr sc_word_at (fun vs H Q E h => ?_) (fun f cdv A outer s H vs Q E hr h => ⟨_,
      (pss_cons (ps_set (i := 2) sc_word_at.nd rfl (Or.inl rfl) (pe_slice sl_tupA (pv 0) (po_some (pv 1)) (po_some (pe_op op_add (pv 1) pe_int))))
      (pss_cons (ps_if (pt_cmpR (Fd.op_eqT hr.units) (pe_slice sl_tupA (pv 2) po_none (po_some pe_int)) (pe_tup (pa_cons pe_int pa_nil)) (nomark _))
        (pss_one (ps_ret (pe_tup (pa_cons pe_str (pa_cons (pe_op op_add (pv 1) pe_int) pa_nil)))))
        pss_nil)
      (pss_cons (ps_if (pt_cmpR (Fd.op_eqT hr.units) (pe_slice sl_tupA (pv 2) po_none (po_some pe_int)) (pe_tup (pa_cons pe_int pa_nil)) (nomark _))
        (pss_one (ps_ret (pe_tup (pa_cons pe_str (pa_cons (pe_op op_add (pv 1) pe_int) pa_nil)))))
        pss_nil)
      (pss_cons (ps_if (PW.pt (pw_and (pt_cmpR op_eq (pe_callB call_len (by rfl) T.n.n_len (by decide +kernel) (pa_cons (pv 2) pa_nil)) pe_int (nomark _)) (pw_and1 (pt_cmpR op_eq (pe_ix ix_tup (pv 2) pe_int (fun _ _ => rfl)) pe_int (nomark _)))))
        (pss_one (ps_ret (pe_tup (pa_cons (pe_ix ix_tup (pv 2) pe_int (fun _ _ => rfl)) (pa_cons (pe_op op_add (pv 1) pe_int) pa_nil)))))
        pss_nil)
      (pss_one (ps_ret pe_non)))))), ?_⟩)
  · obtain ⟨b, bs, i, rfl, _⟩ := h
    rfl
  obtain ⟨b, bs, i, rfl, hb, hs, qn, qs⟩ := h
  refine ⟨_, rfl, _, rfl, _, rfl, _, rfl, _, _, rfl, rfl, _, rfl, slH hb fun ph H1 s1 e1 => ?_⟩
  have e0 : ((i : Int) + 2) = ((i + 2 : Nat) : Int) := by omega
  rw [e0, cut_nat, show i + 2 - i = 2 by omega, ← List.map_drop, ← List.map_take] at e1
  have hbl : bs.drop i ≠ [] → bs.length = i + (bs.drop i).length := fun h => by
    by_cases c : i ≤ bs.length
    · rw [List.length_drop]
      omega
    · exact absurd (List.drop_eq_nil_of_le (by omega)) h
  generalize hr0 : bs.drop i = r0 at e1 qn qs hbl
  refine ⟨_, rfl, 1, rfl, slH e1 fun p2 H2 s2 e2 => ⟨by show 1 ≤ sizeLine; decide, fun q2 n2 => ?_⟩⟩
  have z2 := s2.trans (same_new (o := .tup [.int 2]) n2)
  have e2 : H2 p2 = some (.tup ((r0.take 1).map V.int)) := by
    rw [e2, show (1 : Int) = ((1 : Nat) : Int) from rfl, Fd.cut_to, ← List.map_take, List.take_take]
    rfl
  refine ⟨p2, q2, r0.take 1, [2], rfl, rfl, SqT.of ((same_new n2) _ _ e2), SqT.of upd_same, _, rfl, ?_⟩
  by_cases c2 : r0.take 1 = [2]
  · rw [decide_eq_true c2]
    obtain ⟨r, rfl⟩ : ∃ r, r0 = 2 :: r := by
      cases r0 with
      | nil => cases c2
      | cons x r =>
        injection c2 with c _
        exact ⟨r, by rw [c]⟩
    have hlen : bs.length = i + (r.length + 1) := hbl (fun z => nomatch z)
    refine iteT ⟨_, rfl, _, _, rfl, rfl, by show 2 ≤ sizeLine; decide, fun p np => ?_⟩
    have eE : ((bs.length - r.length : Nat) : Int) = (i : Int) + 1 := by omega
    refine qs .fin r p _ _ rfl ((s1.trans z2).trans (same_new np)) ?_ (.str "end")
    rw [upd_same, eE]
  rw [decide_eq_false c2]
  refine iteF ?_
  have e1 := z2 _ _ e1
  have s1 := s1.trans z2
  generalize upd H2 q2 (.tup [.int 2]) = H1 at e1 s1 ⊢
  refine ⟨_, rfl, 1, rfl, slH e1 fun p3 H3 s3 e3 => ⟨by show 1 ≤ sizeLine; decide, fun q3 n3 => ?_⟩⟩
  have z3 := s3.trans (same_new (o := .tup [.int 1]) n3)
  have e3 : H3 p3 = some (.tup ((r0.take 1).map V.int)) := by
    rw [e3, show (1 : Int) = ((1 : Nat) : Int) from rfl, Fd.cut_to, ← List.map_take, List.take_take]
    rfl
  refine ⟨p3, q3, r0.take 1, [1], rfl, rfl, SqT.of ((same_new n3) _ _ e3), SqT.of upd_same, _, rfl, ?_⟩
  by_cases c1 : r0.take 1 = [1]
  · rw [decide_eq_true c1]
    obtain ⟨r, rfl⟩ : ∃ r, r0 = 1 :: r := by
      cases r0 with
      | nil => cases c1
      | cons x r =>
        injection c1 with c _
        exact ⟨r, by rw [c]⟩
    have hlen : bs.length = i + (r.length + 1) := hbl (fun z => nomatch z)
    refine iteT ⟨_, rfl, _, _, rfl, rfl, by show 2 ≤ sizeLine; decide, fun p np => ?_⟩
    have eE : ((bs.length - r.length : Nat) : Int) = (i : Int) + 1 := by omega
    refine qs .other r p _ _ rfl ((s1.trans z3).trans (same_new np)) ?_ (.str "other")
    rw [upd_same, eE]
  rw [decide_eq_false c1]
  refine iteF ?_
  have e1 := z3 _ _ e1
  have s1 := s1.trans z3
  generalize upd H3 q3 (.tup [.int 1]) = H1 at e1 s1 ⊢
  refine ⟨_, rfl, _, _, rfl, .inr ⟨_, SqT.of e1, rfl⟩, rfl, _, rfl, ?_⟩
  match r0, c2, c1, hbl, qn, qs, e1 with
  | [], _, _, _, qn, _, e1 =>
    rw [decide_eq_false (show ¬ V.int ((((([] : List Int).take 2).map V.int).length : Nat) : Int) = V.int 2 from fun z => absurd (show (0 : Int) = 2 from V.int.inj z) (by decide))]
    exact iteF (qn _ rfl s1)
  | [x], c2, c1, _, qn, _, e1 =>
    rw [decide_eq_false (show ¬ V.int (((([x].take 2).map V.int).length : Nat) : Int) = V.int 2 from fun z => absurd (show (1 : Int) = 2 from V.int.inj z) (by decide))]
    exact iteF (qn _ (wordOf_else (fun z => c2 (by rw [z]; rfl)) (fun z => c1 (by rw [z]; rfl)) fun _ => rfl) s1)
  | x :: y :: r, c2, c1, hbl, qn, qs, e1 =>
    rw [decide_eq_true (show V.int (((((x :: y :: r).take 2).map V.int).length : Nat) : Int) = V.int 2 from rfl)]
    have hlen : bs.length = i + (r.length + 1 + 1) := hbl (fun z => nomatch z)
    have e1 := (show _ = some (HO.tup ([x, y].map V.int)) from e1)
    refine iteT ⟨_, rfl, ph, _, 0, .int x, rfl, rfl, SqT.of e1, atI_nat (j := 0) rfl, rfl, _, rfl, ?_⟩
    by_cases c0 : x = 0
    · subst c0
      rw [decide_eq_true rfl]
      refine iteT ⟨_, rfl, ph, _, 1, .int y, rfl, rfl, SqT.of e1, atI_nat (j := 1) rfl, _, rfl, _, _, rfl, rfl, by show 2 ≤ sizeLine; decide, fun p np => ?_⟩
      have eE : ((bs.length - r.length : Nat) : Int) = (i : Int) + 2 := by omega
      refine qs (.sign y) r p _ _ rfl (s1.trans (same_new np)) ?_ (.int y)
      rw [upd_same, eE]
    · rw [decide_eq_false (fun z => c0 (V.int.inj z))]
      exact iteF (qn _ (wordOf_else (fun z => c2 (by rw [z]; rfl)) (fun z => c1 (by rw [z]; rfl)) fun z => absurd z c0) s1)

theorem ok_items_at (T : Tx K mg fI fI_TooLong fI_Finished fI_NothingDone c_MadeError c_BadRow c_BadThing c_BadForm c_BadSign c_TooLong c_Finished c_NothingDone c_Rules c_Program c_Machine) (D : Dx K mg "items_at" s_items_at ["body", "at"]) (C_item_at : Pr P w K mg base 1 "item_at" ["body", "at"] (spItemAt K)) : Pr P w K mg base 2 "items_at" ["body", "at"] (spItemsAt K) := by
  refine D.pr sc_items_at (fun vs H Q E h => ?_) (fun f cdv A outer s H vs Q E hr h => ⟨_,
      (pss_cons (ps_if (pt_cmpR op_eq (pv 1) (pe_callB call_len (by rfl) T.n.n_len (by decide +kernel) (pa_cons (pv 0) pa_nil)) (nomark _))
        (pss_one (ps_ret pe_non))
        pss_nil)
      (pss_cons (ps_set (i := 2) sc_items_at.nd rfl (Or.inl rfl) (pe_lst pa_nil))
      (pss_cons (ps_set (i := 3) sc_items_at.nd rfl (Or.inl rfl) (pe_op op_add (pv 1) pe_int))
      (pss_cons (ps_for (passes_of rfl) rfl (pi_range1 (by rfl) T.n.n_range (pa_cons (pe_ix ix_tup (pv 0) (pv 1) (fun _ _ => rfl)) pa_nil)) (pg_name (i := 4) sc_items_at.nd rfl (Or.inl rfl))
        (pss_cons (ps_set (i := 5) sc_items_at.nd rfl (Or.inl rfl) (pe_callP C_item_at (hr.mono (by decide)) (by rfl) (passes_call (takes_of rfl rfl rfl rfl) fun _ _ _ _ z => z) (pa_cons (pv 0) (pa_cons (pv 3) pa_nil))))
        (pss_cons (ps_if (pt_cmpR op_isN (pv 5) pe_non (nomark _))
          (pss_one (ps_ret pe_non))
          pss_nil)
        (pss_cons (ps_asg (pv 5) (pg_tup (by rfl) (pgs_cons (pg_name (i := 6) sc_items_at.nd rfl (Or.inl rfl)) (pgs_cons (pg_name (i := 3) sc_items_at.nd rfl (Or.inl rfl)) pgs_nil))))
        (pss_one (ps_expr (pe_bm PySem.F.plainAttrs_list PySem.F.slot_list_append PySem.F.type_list_append mt_append (pv 2) (pa_cons (pv 6) pa_nil))))))))
      (pss_one (ps_ret (pe_tup (pa_cons (pe_callTy call_tuple_of (by rfl) T.n.n_tuple (by decide +kernel) (pa_cons (pv 2) pa_nil)) (pa_cons (pv 3) pa_nil))))))))), ?_⟩)
  · obtain ⟨b, bs, i, rfl, _⟩ := h
    rfl
  obtain ⟨b, bs, i, rfl, hb, hs, hi, qn, qs⟩ := h
  refine ⟨_, rfl, _, rfl, _, _, rfl, .inr ⟨_, SqT.of hb, rfl⟩, rfl, _, rfl, ?_⟩
  rw [List.length_map]
  have hsuf := List.drop_suffix i bs
  have hln : (bs.drop i).length = bs.length - i := List.length_drop
  cases hr0 : bs.drop i with
  | nil =>
    have e : i = bs.length := by
      rw [hr0] at hln
      have z : 0 = bs.length - i := hln
      omega
    rw [decide_eq_true (by rw [e])]
    exact iteT (qn H (by rw [hr0]; rfl) (.refl H))
  | cons n r =>
  rw [hr0] at hsuf hln qn qs
  have hlt : i < bs.length := by
    have z : r.length + 1 = bs.length - i := hln
    omega
  rw [decide_eq_false (fun z => absurd (V.int.inj z) (by omega))]
  have hn : (bs.map V.int)[i]? = some (.int n) := by
    rw [List.getElem?_map, ← List.head?_drop, hr0]
    rfl
  have hn0 := hs n (hsuf.mem List.mem_cons_self)
  refine iteF ⟨Nat.zero_le _, fun pl npl => ?_⟩
  refine ⟨_, rfl, _, _, rfl, rfl, ?_⟩
  have hb1 : upd H pl (.lst []) b = some (.tup (bs.map V.int)) := (same_new npl) _ _ hb
  refine ⟨_, rfl, _, rfl, b, _, (i : Int), .int n, rfl, rfl, SqT.of hb1, atI_nat hn, n, rfl, by omega, by omega, ?_⟩
  refine for_range (lo := 0) (n := n.toNat) (fun k σ H' => ∃ (its : List Itm) (rk : List Int) (xs : List V) (y4 y5 y6 : Option V), σ = [some (.ref b), some (.int (i : Int)), some (.ref pl), some (.int ((bs.length - rk.length : Nat) : Int)), y4, y5, y6] ∧
      Same H H' ∧ H' pl = some (.lst xs) ∧ DaAll K (off pl H') xs (its.map Itm.d) ∧ xs.length = k ∧ rk <:+ bs ∧ itemsOf n.toNat r = (itemsOf (n.toNat - k) rk).map fun q => (its ++ q.1, q.2))
    ⟨[], r, [], none, none, none, ?_, same_new npl, upd_same, .nil, rfl, (List.suffix_cons _ _).trans hsuf, ?_⟩ ?_ ?_
  · have e : ((i : Int) + 1) = ((bs.length - r.length : Nat) : Int) := by
      have z : r.length + 1 = bs.length - i := hln
      omega
    rw [← e]
    rfl
  · rw [Nat.sub_zero]
    cases itemsOf n.toNat r <;> rfl
  · rintro k σ H' hk ⟨its, rk, xs, y4, y5, y6, rfl, s', hp, hd, hxl, hsf, heq⟩
    have hb' := s' _ _ hb
    have hst : n.toNat - k = n.toNat - (k + 1) + 1 := by omega
    refine ⟨_, rfl, _, rfl, b, bs, bs.length - rk.length, rfl, hb', hs, fun H2 en s2 => ?_, fun it r' p q H2 es s2 ep eq => ?_⟩
    · rw [suf_drop hsf] at en
      refine ⟨_, rfl, rfl, _, rfl, ?_⟩
      rw [decide_eq_true rfl]
      refine iteT (qn H2 ?_ (s'.trans s2))
      show itemsOf n.toNat r = none
      rw [heq, hst, itemsOf_stop en]
      rfl
    · rw [suf_drop hsf] at es
      refine ⟨_, rfl, rfl, _, rfl, ?_⟩
      rw [decide_eq_false (fun z => nomatch z)]
      have hp2 := s2 _ _ hp
      have hd2 := hd.keep (Same.off (t := pl) s2) _ _
      have hq2 := Da.offL hp2 _ _ eq (noL_it it)
      refine iteF ⟨_, rfl, p, _, rfl, SqT.of ep, rfl, _, _, rfl, _, _, rfl, rfl, _, rfl, .inl ⟨rfl, _, SqL.of hp2⟩, _, rfl, pl, _, _, rfl, rfl, hp2, ?_, ?_⟩
      · rw [hxl]
        have z := hs n (hsuf.mem List.mem_cons_self)
        exact Nat.lt_of_lt_of_le (show k < 100 by omega) (by decide)
      · refine ⟨its ++ [it], r', xs ++ [.ref q], _, _, _, rfl, same_mut (s'.trans s2) npl, upd_same, ?_, by rw [List.length_append, hxl]; rfl, (itemOf_suffix es).trans hsf, ?_⟩
        · rw [List.map_append]
          exact DaAll.snoc (hd2.keep off_upd _ _) (hq2.keep off_upd _ _)
        · rw [heq, hst, itemsOf_step es]
          cases itemsOf (n.toNat - (k + 1)) r' with
          | none => rfl
          | some z => simp [List.append_assoc]
  · rintro σ H' ⟨its, rk, xs, y4, y5, y6, rfl, s', hp, hd, hxl, hsf, heq⟩
    rw [Nat.sub_self] at heq
    refine ⟨_, rfl, pl, _, rfl, .inl ⟨SqL.of hp, fun pt npt => ⟨_, rfl, by show 2 ≤ sizeLine; decide, fun p np => ?_⟩⟩⟩
    refine qs its rk p pt _ ?_ ((s'.trans (same_new npt)).trans (same_new np)) upd_same (.tup ((same_new np) _ _ upd_same) ((hd.keep off_le _ _).keep ((same_new npt).trans (same_new np)) _ _))
    show itemsOf n.toNat r = some (its, rk)
    rw [heq]
    show some (its ++ [], rk) = some (its, rk)
    rw [List.append_nil]

theorem ok_rule_at (T : Tx K mg fI fI_TooLong fI_Finished fI_NothingDone c_MadeError c_BadRow c_BadThing c_BadForm c_BadSign c_TooLong c_Finished c_NothingDone c_Rules c_Program c_Machine) (D : Dx K mg "rule_at" s_rule_at ["body", "at"]) (C_word_at : Pr P w K mg base 1 "word_at" ["body", "at"] (spWordAt K)) (C_items_at : Pr P w K mg base 2 "items_at" ["body", "at"] (spItemsAt K)) : Pr P w K mg base 3 "rule_at" ["body", "at"] (spRuleAt K) := by
  refine D.pr sc_rule_at (fun vs H Q E h => ?_) (fun f cdv A outer s H vs Q E hr h => ⟨_,
      (pss_cons (ps_set (i := 2) sc_rule_at.nd rfl (Or.inl rfl) (pe_callP C_word_at (hr.mono (by decide)) (by rfl) (passes_call (takes_of rfl rfl rfl rfl) fun _ _ _ _ z => z) (pa_cons (pv 0) (pa_cons (pe_op op_add (pv 1) pe_int) pa_nil))))
      (pss_cons (ps_if (pt_cmpR op_isN (pv 2) pe_non (nomark _))
        (pss_one (ps_ret pe_non))
        pss_nil)
      (pss_cons (ps_asg (pv 2) (pg_tup (by rfl) (pgs_cons (pg_name (i := 3) sc_rule_at.nd rfl (Or.inl rfl)) (pgs_cons (pg_name (i := 4) sc_rule_at.nd rfl (Or.inl rfl)) pgs_nil))))
      (pss_cons (ps_set (i := 2) sc_rule_at.nd rfl (Or.inl rfl) (pe_callP C_items_at (hr.mono (by decide)) (by rfl) (passes_call (takes_of rfl rfl rfl rfl) fun _ _ _ _ z => z) (pa_cons (pv 0) (pa_cons (pv 4) pa_nil))))
      (pss_cons (ps_if (pt_cmpR op_isN (pv 2) pe_non (nomark _))
        (pss_one (ps_ret pe_non))
        pss_nil)
      (pss_cons (ps_asg (pv 2) (pg_tup (by rfl) (pgs_cons (pg_name (i := 5) sc_rule_at.nd rfl (Or.inl rfl)) (pgs_cons (pg_name (i := 6) sc_rule_at.nd rfl (Or.inl rfl)) pgs_nil))))
      (pss_cons (ps_if (pt_cmpR op_eq (pv 3) pe_str (nomark _))
        (pss_one (ps_ret (pe_tup (pa_cons (pe_tup (pa_cons (pe_ix ix_tup (pv 0) (pv 1) (fun _ _ => rfl)) (pa_cons (pv 3) (pa_cons (pv 5) (pa_cons pe_non pa_nil))))) (pa_cons (pv 6) pa_nil)))))
        pss_nil)
      (pss_cons (ps_if (pt_cmpR op_eq (pv 6) (pe_callB call_len (by rfl) T.n.n_len (by decide +kernel) (pa_cons (pv 0) pa_nil)) (nomark _))
        (pss_one (ps_ret pe_non))
        pss_nil)
      (pss_one (ps_ret (pe_tup (pa_cons (pe_tup (pa_cons (pe_ix ix_tup (pv 0) (pv 1) (fun _ _ => rfl)) (pa_cons (pv 3) (pa_cons (pv 5) (pa_cons (pe_ix ix_tup (pv 0) (pv 6) (fun _ _ => rfl)) pa_nil))))) (pa_cons (pe_op op_add (pv 6) pe_int) pa_nil))))))))))))), ?_⟩)
  · unfold spRuleAt at h
    obtain ⟨b, bs, i, rfl, _⟩ := h
    rfl
  unfold spRuleAt at h
  obtain ⟨b, bs, i, rfl, hb, hs, qn, qs⟩ := h
  have e1 : (i : Int) + 1 = ((i + 1 : Nat) : Int) := by omega
  have hdr : bs.drop (i + 1) = (bs.drop i).drop 1 := by rw [List.drop_drop]
  have hsuf := List.drop_suffix i bs
  refine ⟨_, rfl, _, rfl, _, _, rfl, rfl, b, bs, i + 1, by (rw [← e1]; rfl), hb, hs, fun H1 en s1 => ?_, fun w r2 p1 v1 H1 ew s1 ep1 ev1 => ?_⟩
  · refine ⟨_, rfl, rfl, _, rfl, ?_⟩
    rw [decide_eq_true rfl]
    refine iteT (qn H1 ?_ s1)
    rw [hdr] at en
    cases hr : bs.drop i with
    | nil => rfl
    | cons s r =>
      rw [hr] at en
      show (wordOf r).bind _ = none
      rw [show wordOf r = none from en]
      rfl
  rw [hdr] at ew
  obtain ⟨st, r, hr⟩ : ∃ st r, bs.drop i = st :: r := by
    cases hr : bs.drop i with
    | nil => rw [hr] at ew; cases ew
    | cons st r => exact ⟨st, r, rfl⟩
  rw [hr] at ew hsuf qn qs
  have ew : wordOf r = some (w, r2) := ew
  have hst : (bs.map V.int)[i]? = some (.int st) := by
    rw [List.getElem?_map, ← List.head?_drop, hr]
    rfl
  have hsuf2 : r2 <:+ bs := (wordOf_suffix ew).trans ((List.suffix_cons _ _).trans hsuf)
  refine ⟨_, rfl, rfl, _, rfl, ?_⟩
  rw [decide_eq_false (fun z => nomatch z)]
  refine iteF ⟨_, rfl, p1, _, rfl, SqT.of ep1, rfl, _, _, rfl, _, _, rfl, rfl, ?_⟩
  refine ⟨_, rfl, _, rfl, b, bs, bs.length - r2.length, rfl, s1 _ _ hb, hs, Nat.sub_le _ _, fun H2 en s2 => ?_, fun its r3 p2 q2 H2 ei s2 ep2 eq2 => ?_⟩
  · rw [suf_drop hsuf2] at en
    refine ⟨_, rfl, rfl, _, rfl, ?_⟩
    rw [decide_eq_true rfl]
    refine iteT (qn H2 ?_ (s1.trans s2))
    show (wordOf r).bind _ = none
    rw [ew]
    show (itemsAt r2).bind _ = none
    rw [en]
    rfl
  rw [suf_drop hsuf2] at ei
  have hsuf3 : r3 <:+ bs := (itemsAt_suffix ei).trans hsuf2
  have s12 := s1.trans s2
  have hb2 := s12 _ _ hb
  have ev2 := ev1.keep s2 _ _
  have eR : ruleOf (st :: r) = ruleEnd st w its r3 := by
    show (wordOf r).bind _ = _
    rw [ew]
    show (itemsAt r2).bind _ = _
    rw [ei]
    rfl
  rw [eR] at qn qs
  refine ⟨_, rfl, rfl, _, rfl, ?_⟩
  rw [decide_eq_false (fun z => nomatch z)]
  refine iteF ⟨_, rfl, p2, _, rfl, SqT.of ep2, rfl, _, _, rfl, _, _, rfl, rfl, ?_⟩
  cases w with
  | fin =>
    cases ev2
    refine ⟨_, rfl, rfl, _, rfl, ?_⟩
    rw [decide_eq_true rfl]
    refine iteT ⟨_, rfl, _, rfl, b, _, (i : Int), .int st, rfl, rfl, SqT.of hb2, atI_nat hst, _, rfl, _, rfl, by show 4 ≤ sizeLine; decide, fun pt npt => ⟨_, rfl, by show 2 ≤ sizeLine; decide, fun p np => ?_⟩⟩
    have ss := (same_new (o := .tup [.int st, .str "end", .ref q2, .non]) npt)
    exact qs ⟨st, .fin, its, none⟩ r3 p pt _ rfl ((s12.trans ss).trans (same_new np)) upd_same (.tup ((same_new np) _ _ upd_same) (.cons (.int st) (.cons (.str "end") (.cons (eq2.keep (ss.trans (same_new np)) _ _) (.cons .non .nil)))))
  | sign s0 =>
    cases ev2
    refine ⟨_, rfl, rfl, _, rfl, ?_⟩
    rw [decide_eq_false (fun z => nomatch z)]
    refine iteF ⟨_, rfl, _, rfl, _, _, rfl, .inr ⟨_, SqT.of hb2, rfl⟩, rfl, _, rfl, ?_⟩
    rw [List.length_map]
    cases r3 with
    | nil =>
      rw [decide_eq_true (show V.int ((bs.length - ([] : List Int).length : Nat) : Int) = V.int (bs.length : Int) from rfl)]
      exact iteT (qn H2 rfl s12)
    | cons f r4 =>
      have hl3 := hsuf3.length_le
      rw [List.length_cons] at hl3
      rw [decide_eq_false (show ¬ V.int ((bs.length - (f :: r4).length : Nat) : Int) = V.int (bs.length : Int) from fun z => by
        have y := V.int.inj z
        rw [List.length_cons] at y
        omega)]
      have hf : (bs.map V.int)[bs.length - (f :: r4).length]? = some (.int f) := by
        rw [List.getElem?_map, ← List.head?_drop, suf_drop hsuf3]
        rfl
      refine iteF ⟨_, rfl, _, rfl, b, _, (i : Int), .int st, rfl, rfl, SqT.of hb2, atI_nat hst, _, rfl, _, rfl, _, rfl, _, rfl, b, _, _, .int f, rfl, rfl, SqT.of hb2, atI_nat hf, by show 4 ≤ sizeLine; decide, fun pt npt => ⟨_, rfl, _, _, rfl, rfl, by show 2 ≤ sizeLine; decide, fun p np => ?_⟩⟩
      have eE : ((bs.length - r4.length : Nat) : Int) = ((bs.length - (f :: r4).length : Nat) : Int) + 1 := by
        rw [List.length_cons]
        omega
      have ss := (same_new (o := .tup [.int st, .int s0, .ref q2, .int f]) npt)
      refine qs ⟨st, _, its, some f⟩ r4 p pt _ rfl ((s12.trans ss).trans (same_new np)) ?_ (.tup ((same_new np) _ _ upd_same) (.cons (.int st) (.cons ?_ (.cons (eq2.keep (ss.trans (same_new np)) _ _) (.cons (.int f) .nil)))))
      · rw [upd_same, eE]
      · exact .int _
  | other =>
    cases ev2
    refine ⟨_, rfl, rfl, _, rfl, ?_⟩
    rw [decide_eq_false (fun z => absurd (V.str.inj z) (by decide +kernel))]
    refine iteF ⟨_, rfl, _, rfl, _, _, rfl, .inr ⟨_, SqT.of hb2, rfl⟩, rfl, _, rfl, ?_⟩
    rw [List.length_map]
    cases r3 with
    | nil =>
      rw [decide_eq_true (show V.int ((bs.length - ([] : List Int).length : Nat) : Int) = V.int (bs.length : Int) from rfl)]
      exact iteT (qn H2 rfl s12)
    | cons f r4 =>
      have hl3 := hsuf3.length_le
      rw [List.length_cons] at hl3
      rw [decide_eq_false (show ¬ V.int ((bs.length - (f :: r4).length : Nat) : Int) = V.int (bs.length : Int) from fun z => by
        have y := V.int.inj z
        rw [List.length_cons] at y
        omega)]
      have hf : (bs.map V.int)[bs.length - (f :: r4).length]? = some (.int f) := by
        rw [List.getElem?_map, ← List.head?_drop, suf_drop hsuf3]
        rfl
      refine iteF ⟨_, rfl, _, rfl, b, _, (i : Int), .int st, rfl, rfl, SqT.of hb2, atI_nat hst, _, rfl, _, rfl, _, rfl, _, rfl, b, _, _, .int f, rfl, rfl, SqT.of hb2, atI_nat hf, by show 4 ≤ sizeLine; decide, fun pt npt => ⟨_, rfl, _, _, rfl, rfl, by show 2 ≤ sizeLine; decide, fun p np => ?_⟩⟩
      have eE : ((bs.length - r4.length : Nat) : Int) = ((bs.length - (f :: r4).length : Nat) : Int) + 1 := by
        rw [List.length_cons]
        omega
      have ss := (same_new (o := .tup [.int st, .str "other", .ref q2, .int f]) npt)
      refine qs ⟨st, _, its, some f⟩ r4 p pt _ rfl ((s12.trans ss).trans (same_new np)) ?_ (.tup ((same_new np) _ _ upd_same) (.cons (.int st) (.cons ?_ (.cons (eq2.keep (ss.trans (same_new np)) _ _) (.cons (.int f) .nil)))))
      · rw [upd_same, eE]
      · exact .str "other"

theorem ok_rules_and_tail (T : Tx K mg fI fI_TooLong fI_Finished fI_NothingDone c_MadeError c_BadRow c_BadThing c_BadForm c_BadSign c_TooLong c_Finished c_NothingDone c_Rules c_Program c_Machine) (D : Dx K mg "rules_and_tail" s_rules_and_tail ["body"]) (C_rule_at : Pr P w K mg base 3 "rule_at" ["body", "at"] (spRuleAt K)) : Pr P w K mg base 4 "rules_and_tail" ["body"] (spRulesTail K) := by
  refine D.pr sc_rules_and_tail (fun vs H Q E h => ?_) (fun f cdv A outer s H vs Q E hr h => ⟨_,
      (pss_cons (ps_set (i := 1) sc_rules_and_tail.nd rfl (Or.inl rfl) (pe_lst pa_nil))
      (pss_cons (ps_set (i := 2) sc_rules_and_tail.nd rfl (Or.inl rfl) pe_int)
      (pss_cons (ps_set (i := 3) sc_rules_and_tail.nd rfl (Or.inl rfl) (pe_callP C_rule_at (hr.mono (by decide)) (by rfl) (passes_call (takes_of rfl rfl rfl rfl) fun _ _ _ _ z => z) (pa_cons (pv 0) (pa_cons (pv 2) pa_nil))))
      (pss_cons (ps_while (passes_of rfl) (pt_cmpR op_notN (pv 3) pe_non (nomark _))
        (pss_cons (ps_asg (pv 3) (pg_tup (by rfl) (pgs_cons (pg_name (i := 4) sc_rules_and_tail.nd rfl (Or.inl rfl)) (pgs_cons (pg_name (i := 2) sc_rules_and_tail.nd rfl (Or.inl rfl)) pgs_nil))))
        (pss_cons (ps_expr (pe_bm PySem.F.plainAttrs_list PySem.F.slot_list_append PySem.F.type_list_append mt_append (pv 1) (pa_cons (pv 4) pa_nil)))
        (pss_one (ps_set (i := 3) sc_rules_and_tail.nd rfl (Or.inl rfl) (pe_callP C_rule_at (hr.mono (by decide)) (by rfl) (passes_call (takes_of rfl rfl rfl rfl) fun _ _ _ _ z => z) (pa_cons (pv 0) (pa_cons (pv 2) pa_nil))))))))
      (pss_one (ps_ret (pe_tup (pa_cons (pe_callTy call_tuple_of (by rfl) T.n.n_tuple (by decide +kernel) (pa_cons (pv 1) pa_nil)) (pa_cons (pe_slice sl_tupA (pv 0) (po_some (pv 2)) po_none) pa_nil))))))))), ?_⟩)
  · obtain ⟨b, bs, rfl, _⟩ := h
    rfl
  obtain ⟨b, bs, rfl, hb, hs, hbig, q⟩ := h
  refine ⟨Nat.zero_le _, fun pl npl => ?_⟩
  have s0 := same_new (o := .lst []) npl
  have hp0 : upd H pl (.lst []) pl = some (.lst []) := upd_same
  generalize upd H pl (.lst []) = H0 at s0 hp0 ⊢
  have hb0 := s0 _ _ hb
  -- what is told at a place, the list of rules at pl
  have call : ∀ (i : Nat) (vs : List V), vs = [.ref b, .int (i : Int)] → ∀ (H1 : Hp) (Q' : VK), Same H H1 → (∃ xs, H1 pl = some (.lst xs)) → (∀ v H2, Same H1 H2 → ((ruleOf (bs.drop i) = none ∧ v = .non) ∨ ∃ u r' p q, ruleOf (bs.drop i) = some (u, r') ∧ v = .ref p ∧ H2 p = some (.tup [.ref q, .int ((bs.length - r'.length : Nat) : Int)]) ∧ Da K (off pl H2) (.ref q) u.d) → Q' v H2) →
      spRuleAt K vs H1 Q' E := fun i vs ev H1 Q' s1 hl k => by
    unfold spRuleAt
    exact ⟨b, bs, i, ev, s1 _ _ hb, hs, fun H2 en s2 => k .non H2 s2 (.inl ⟨en, rfl⟩), fun u r' p q' H2 eu s2 ep eq => by
      obtain ⟨xs, hl⟩ := hl
      exact k (.ref p) H2 s2 (.inr ⟨u, r', p, q', eu, rfl, ep, Da.offL (s2 _ _ hl) _ _ eq (noL_ru u)⟩)⟩
  refine ⟨_, rfl, _, rfl, call 1 _ (by rfl) H0 _ s0 ⟨_, hp0⟩ fun v H1 s1 hv => ?_⟩
  refine ⟨fun k σ H' => ∃ (us : List Ru) (i : Nat) (xs : List V) (v : V) (y4 : Option V), σ = [some (.ref b), some (.ref pl), some (.int (i : Int)), some v, y4] ∧ Same H H' ∧ H' pl = some (.lst xs) ∧ DaAll K (off pl H') xs (us.map Ru.d) ∧ xs.length + (bs.drop i).length ≤ bs.length ∧ (bs.drop i).length ≤ k ∧
      rulesOf bs.length (bs.drop 1) = (us ++ (rulesOf k (bs.drop i)).1, (rulesOf k (bs.drop i)).2) ∧
      ((ruleOf (bs.drop i) = none ∧ v = .non) ∨ ∃ u r' p q, ruleOf (bs.drop i) = some (u, r') ∧ v = .ref p ∧ H' p = some (.tup [.ref q, .int ((bs.length - r'.length : Nat) : Int)]) ∧ Da K (off pl H') (.ref q) u.d),
    ⟨bs.length, [], 1, [], v, none, rfl, s0.trans s1, s1 _ _ hp0, .nil, by rw [List.length_drop]; show 0 + _ ≤ _; omega, by rw [List.length_drop]; omega, rfl, hv⟩, ?_⟩
  rintro k σ H2 ⟨us, i, xs, v, y4, rfl, s2, hp, hd, hxl, hk, heq, hv⟩
  rcases hv with ⟨en, rfl⟩ | ⟨u, r', p, qq, eu, rfl, ep, eq⟩
  · refine ⟨_, rfl, rfl, _, rfl, ?_⟩
    rw [decide_eq_true rfl]
    refine iteF ?_
    have hb2 := s2 _ _ hb
    rw [rulesOf_stop en, List.append_nil] at heq
    rw [heq] at q
    refine ⟨_, rfl, pl, xs, rfl, .inl ⟨SqL.of hp, fun pt npt => ⟨_, rfl, _, rfl, _, rfl, ?_⟩⟩⟩
    dsimp only [tNoPart]
    refine slH ((same_new npt) _ _ hb2) fun pq H3 s3 e3 => ⟨by show 2 ≤ sizeLine; decide, fun p np => ?_⟩
    rw [Fd.cut_from, ← List.map_drop] at e3
    have s23 := (same_new (o := .tup xs) npt).trans s3
    refine q p pt pq _ ((s2.trans s23).trans (same_new np)) upd_same (.tup ((same_new np) _ _ (s3 _ _ upd_same)) ((hd.keep off_le _ _).keep (s23.trans (same_new np)) _ _)) ((same_new np) _ _ e3)
  · refine ⟨_, rfl, rfl, _, rfl, ?_⟩
    rw [decide_eq_false (fun z => nomatch z)]
    refine iteT ?_
    obtain ⟨hsf, hless⟩ := ruleOf_less eu
    obtain ⟨k, rfl⟩ : ∃ k', k = k' + 1 := ⟨k - 1, by omega⟩
    have hsb : r' <:+ bs := hsf.trans (List.drop_suffix _ _)
    refine ⟨_, fun σ' H' h => ⟨k, Nat.lt_succ_self k, h⟩, ?_⟩
    refine ⟨_, rfl, p, _, rfl, SqT.of ep, rfl, _, _, rfl, _, _, rfl, rfl, _, rfl, .inl ⟨rfl, _, SqL.of hp⟩, _, rfl, pl, _, _, rfl, rfl, hp, Nat.lt_of_le_of_lt (show xs.length ≤ 10000000 by omega) (by decide), ?_⟩
    have s3 := same_mut (o := .lst (xs ++ [.ref qq])) s2 npl
    have hp3 : upd H2 pl (.lst (xs ++ [.ref qq])) pl = some (.lst (xs ++ [.ref qq])) := upd_same
    have hd3 : DaAll K (off pl (upd H2 pl (.lst (xs ++ [.ref qq])))) (xs ++ [.ref qq]) ((us ++ [u]).map Ru.d) := by
      rw [List.map_append]
      exact DaAll.snoc (hd.keep off_upd _ _) (eq.keep off_upd _ _)
    generalize upd H2 pl (.lst (xs ++ [.ref qq])) = H3 at s3 hp3 hd3 ⊢
    refine ⟨_, rfl, _, rfl, call (bs.length - r'.length) _ (by rfl) H3 _ s3 ⟨_, hp3⟩ fun v H4 s4 hv => ?_⟩
    refine ⟨us ++ [u], bs.length - r'.length, xs ++ [.ref qq], v, _, rfl, s3.trans s4, s4 _ _ hp3, hd3.keep (Same.off s4) _ _, ?_, ?_, ?_, hv⟩
    · rw [suf_drop hsb, List.length_append]
      show xs.length + 1 + r'.length ≤ bs.length
      omega
    · rw [suf_drop hsb]
      omega
    · rw [suf_drop hsb, heq, rulesOf_step eu]
      simp [List.append_assoc]

theorem ok_Rules_init (T : Tx K mg fI fI_TooLong fI_Finished fI_NothingDone c_MadeError c_BadRow c_BadThing c_BadForm c_BadSign c_TooLong c_Finished c_NothingDone c_Rules c_Program c_Machine) {f : Addr} {fd : FuncData} (F : Fun K "__init__" "Rules.__init__" s_Rules_init f fd) (C_is_row : Fd.Pr P w K mg base 3 "is_row" ["value"] (lift (sdDW dRow))) (C_init : InitOk P w K mg base 1 fI) (C_rules_and_tail : Fd.Pr P w K mg base 4 "rules_and_tail" ["body"] (lift sdRulesTail)) : FnOk P w K mg base (L2.CX P w) 6 f fd ["self", "body"] (lift (sdInitRE c_Rules c_BadRow)) := by
  refine fn_v F sc_Rules_init (fun ws S Q E h => ?_) (fun cdv A outer s B ws Q Ed E hr le h => ⟨_,
      (vs_cons (v_if (vt_not (vt_val (v_call le (pe_callP C_is_row (hr.mono (by decide)) (by rfl) (passes_call (takes_of rfl rfl rfl rfl) fun _ _ _ _ z => z) (va_cons (vv 1 (pv 1)) va_nil)))))
        (vs_one (v_raise le (ps_raise rfl (takes_of rfl rfl rfl rfl) (pmk_made T.x_BadRow C_init (hr.mono (by decide)) (passes_call (takes_of rfl rfl rfl rfl) fun _ _ _ _ z => z.elim) (by rfl) (vv 1 (pv 1))))))
        vs_nil)
      (vs_cons (v_sfld T.k_Rules.cl T.n_Rules_body (ps_fld (vv 0 (pv 0)) (v_cb up_tuple (pe_callTy call_tuple_of (by rfl) T.n.n_tuple (by decide +kernel) (va_cons (vv 1 (pv 1)) va_nil))) rfl))
      (vs_cons (v_sfld T.k_Rules.cl T.n_Rules_start (ps_fld (vv 0 (pv 0)) (v_ifExp (vt_truth (v_fld T.k_Rules.cl T.n_Rules_body (vv 0 (pv 0))) (by intro _; rfl)) (v_ix (v_fld T.k_Rules.cl T.n_Rules_body (vv 0 (pv 0))) v_int) v_int) rfl))
      (vs_one (v_asg (ps_asg (v_call le (pe_callP C_rules_and_tail (hr.mono (by decide)) (by rfl) (passes_call (takes_of rfl rfl rfl rfl) fun _ _ _ _ z => z) (va_cons (v_fld T.k_Rules.cl T.n_Rules_body (vv 0 (pv 0))) va_nil))) (vg_tup (pg_tup (by rfl) (vgs_cons (vg_fld T.k_Rules.cl T.n_Rules_rules (vv 0 (pv 0))) (vgs_cons (vg_fld T.k_Rules.cl T.n_Rules_tail (vv 0 (pv 0))) vgs_nil)))))))))), ?_⟩)
  · rcases h with h | h
    · obtain ⟨k, w, bs, rfl, _⟩ := h
      rfl
    · obtain ⟨k, d, rfl, _⟩ := h
      rfl
  rcases h with h | h
  rotate_left
  · obtain ⟨k, d, rfl, pd, hd, e⟩ := h
    refine ⟨_, rfl, .dat d, d, rfl, rfl, pd, _, rfl, ?_⟩
    rw [hd]
    refine iteT ?_
    refine ⟨_, rfl, ?_⟩
    show Ed c_BadRow d (B.S.take B.S.length)
    rw [List.take_length]
    exact e
  obtain ⟨k, w, bs, rfl, ek, pk, hs, hl, ne, q⟩ := h
  have hk := (List.getElem?_eq_some_iff.mp ek).1
  have row : ∃ d, Pk B.S w d ∧ pure' d = true ∧ dRow (py d) = true := by
    have hp : pures (bs.map D.int) = true := (sh_all (sh_ints bs)).1
    rcases pk with p | p
    · exact ⟨_, p, by rw [pure']; exact hp, by rw [py, pys_ints]; exact dRow_lst hs⟩
    · exact ⟨_, p, by rw [pure']; exact hp, by rw [py, pys_ints]; exact dRow_tup hs⟩
  obtain ⟨d, p0, p1, p2⟩ := row
  refine ⟨_, rfl, w, d, rfl, p0, puW_of _ p1, _, rfl, ?_⟩
  rw [p2]
  refine iteF ?_
  refine ⟨_, rfl, w, _, rfl, pk, _, rfl, k, rfl, _, _, ek, by decide, ?_⟩
  have z1 : put2 "body" (D.tup (bs.map D.int)) [] ([] : List D) = ((["body"] : List Str), [iv bs]) := rfl
  have z2 : put2 "start" (D.int (bs.headD 0)) ["body"] [iv bs] = ((["body", "start"] : List Str), [iv bs, .int (bs.headD 0)]) := put2_new (by decide) rfl
  have e1 := set_get (y := some (Ob.ins c_Rules ["body"] [iv bs])) ek
  have body : ∀ ns ds, (∀ d, fldD "body" ns ds = some d → d = iv bs) → True := fun _ _ _ => trivial
  have f1 : fldD "body" ["body"] [iv bs] = some (iv bs) := rfl
  have goal2 : ∀ (S : Own), S[k]? = some (some (.ins c_Rules ["body"] [iv bs])) → ∃ s, True := fun _ _ => ⟨0, trivial⟩
  refine ⟨_, rfl, _, _, _, ⟨_, e1, rfl⟩, f1, _, .inl ⟨_, .inr rfl, rfl⟩, ?_⟩
  have z3 : put2 "rules" (D.tup (rusV (rulesOf bs.length (bs.drop 1)).1)) ["body", "start"] [iv bs, .int (bs.headD 0)] = ((["body", "start", "rules"] : List Str), [iv bs, .int (bs.headD 0), .tup (rusV (rulesOf bs.length (bs.drop 1)).1)]) := put2_new (by decide) rfl
  have z4 : put2 "tail" (iv (rulesOf bs.length (bs.drop 1)).2) ["body", "start", "rules"] [iv bs, .int (bs.headD 0), .tup (rusV (rulesOf bs.length (bs.drop 1)).1)] = (bodyNs, bodyDs bs) := put2_new (by decide) rfl
  have rest : ∀ (S : Own) , S[k]? = some (some (.ins c_Rules (put2 "start" (D.int (bs.headD 0)) ["body"] [iv bs]).1 (put2 "start" (D.int (bs.headD 0)) ["body"] [iv bs]).2)) → S.length = B.S.length → (∀ x, S.set k x = B.S.set k x) → 
      dAsg (dCall sdRulesTail (fun C d S' => Ed C d (S'.take B.S.length)) (dCons (dFld c_Rules "body" (dVar 0)) dNil)) (dgTup 2 (dgCons (dgFld c_Rules "rules" (dVar 0)) (dgCons (dgFld c_Rules "tail" (dVar 0)) dgNil))) { nx := fun δ => Rt B.S.length Q (.dat .non) δ.own, rt := fun u δ => Rt B.S.length Q u δ.own } ⟨[some (.own k), some w], S⟩ := fun S e2 lS hset => by
    rw [z2] at e2
    refine ⟨_, rfl, _, _, _, ⟨_, e2, rfl⟩, (rfl : fldD "body" ["body", "start"] [iv bs, D.int (bs.headD 0)] = some (iv bs)), bs, rfl, hs, by omega, _, rfl, rfl, _, _, rfl, _, rfl, k, rfl, _, _, e2, (by show 2 < 1000; decide), ?_⟩
    rw [z3]
    have e3 := set_get (y := some (Ob.ins c_Rules ["body", "start", "rules"] [iv bs, .int (bs.headD 0), .tup (rusV (rulesOf bs.length (bs.drop 1)).1)])) e2
    refine ⟨_, _, rfl, _, rfl, k, rfl, _, _, e3, (by show 3 < 1000; decide), rfl, ?_⟩
    rw [z4]
    show Q (.dat .non) (((S.set k _).set k _).take B.S.length)
    rw [List.set_set, hset, List.take_of_length_le (by rw [List.length_set]; exact Nat.le_refl _)]
    exact q
  cases bs with
  | nil =>
    refine iteF ?_
    refine ⟨_, rfl, k, rfl, _, _, e1, by decide, ?_⟩
    exact rest _ (set_get e1) (by rw [List.length_set, List.length_set]) fun x => by rw [List.set_set, List.set_set]
  | cons x r =>
    refine iteT ?_
    refine ⟨_, rfl, _, _, _, ⟨_, e1, rfl⟩, f1, _, rfl, .inl ⟨_, _, .inr rfl, atI_nat (j := 0) rfl, ?_⟩⟩
    refine ⟨_, rfl, k, rfl, _, _, e1, by decide, ?_⟩
    exact rest _ (set_get e1) (by rw [List.length_set, List.length_set]) fun x => by rw [List.set_set, List.set_set]

theorem ok_Program_init (T : Tx K mg fI fI_TooLong fI_Finished fI_NothingDone c_MadeError c_BadRow c_BadThing c_BadForm c_BadSign c_TooLong c_Finished c_NothingDone c_Rules c_Program c_Machine) {f : Addr} {fd : FuncData} (F : Fun K "__init__" "Program.__init__" s_Program_init f fd) (C_Rules : PrC P w K mg base 6 "Rules" c_Rules ["self", "body"] (sdInitR c_Rules)) (C_body_of : Fd.Pr P w K mg base 6 "body_of" ["thing"] (lift sdBodyOfB)) : FnOk P w K mg base (L2.CX P w) 8 f fd ["self", "thing"] (lift (sdInitP c_Program)) := by
  refine fn_vN F sc_Program_init (fun ws S Q E h => ?_) (fun cdv A outer s B ws Q Ed E hr le h => ⟨_,
      (vs_cons (v_set _ (ps_set (i := 2) sc_Program_init.nd rfl (Or.inl rfl) (v_make le (pe_makeC C_Rules (hr.mono (by decide)) (by rfl) (passes_call (takes_of rfl rfl rfl rfl) fun _ _ _ _ z => z) (va_cons (v_call le (pe_callP C_body_of (hr.mono (by decide)) (by rfl) (passes_call (takes_of rfl rfl rfl rfl) fun _ _ _ _ z => z) (va_cons (vv 1 (pv 1)) va_nil))) va_nil)))))
      (vs_cons (v_sfld T.k_Program.cl T.n_Program_body (ps_fld (vv 0 (pv 0)) (v_fld T.k_Rules.cl T.n_Rules_body (vv 2 (pv 2))) rfl))
      (vs_cons (v_sfld T.k_Program.cl T.n_Program_start (ps_fld (vv 0 (pv 0)) (v_fld T.k_Rules.cl T.n_Rules_start (vv 2 (pv 2))) rfl))
      (vs_cons (v_sfldP T.k_Program.cl T.n_Program_taken (ps_fld (vv 0 (pv 0)) (v_dct pe_dnewT) rfl))
      (vs_one (v_for (ps_for (passes_of rfl) rfl (pi_seq (v_fld T.k_Rules.cl T.n_Rules_rules (vv 2 (pv 2)))) (vg_name (pg_name (i := 3) sc_Program_init.nd rfl (Or.inl rfl)))
        (vs_one (v_expr (v_setdT (pe_bm PySem.F.plainAttrs_dict PySem.F.slot_dict_setdefault PySem.F.type_dict_setdefault (mt_setdT (Nat.lt_of_le_of_lt (Nat.add_le_add_left (by decide : 1 ≤ 64) _) hr.units)) (v_fldP T.k_Program.cl T.n_Program_taken (vv 0 (pv 0))) (va_cons (v_tup (va_cons (v_ix (vv 3 (pv 3)) v_int) (va_cons (v_ix (vv 3 (pv 3)) v_int) va_nil))) (va_cons (vv 3 (pv 3)) va_nil))))))))))))), ?_⟩)
  · obtain ⟨k, f, n, bs, rfl, _⟩ := h
    rfl
  obtain ⟨k, f, n, bs, rfl, hf, hn, hs, hl, ek, q⟩ := h
  have hk : k < B.S.length := (List.getElem?_eq_some_iff.mp ek).1
  refine ⟨_, rfl, f, n, false, bs, rfl, hf, hn, hs, hl, B.S.length, .dat (iv bs), bs, rfl, push_get, .inr rfl, hs, by omega, (fun z => nomatch z), rfl, ?_⟩
  have kl : ¬ (k = B.S.length) := by omega
  have et : ((B.S ++ [some (Ob.ins c_Rules [] [])]).set B.S.length (some (.ins c_Rules bodyNs (bodyDs bs))))[B.S.length]? = some (some (Ob.ins c_Rules bodyNs (bodyDs bs))) := set_get push_get
  have ek1 : ((B.S ++ [some (Ob.ins c_Rules [] [])]).set B.S.length (some (.ins c_Rules bodyNs (bodyDs bs))))[k]? = some (some (Ob.ins c_Program [] [])) := get_set (get_push ek) (fun z => kl z.symm)
  have kp : ∀ i, i < B.S.length → ((B.S ++ [some (Ob.ins c_Rules [] [])]).set B.S.length (some (.ins c_Rules bodyNs (bodyDs bs))))[i]? = B.S[i]? := fun i hi => by
    rw [List.getElem?_set_ne (by omega), List.getElem?_append_left hi]
  have ln : ((B.S ++ [some (Ob.ins c_Rules [] [])]).set B.S.length (some (.ins c_Rules bodyNs (bodyDs bs)))).length = B.S.length + 1 := by simp
  show Va.dSeq _ _ _ ⟨[some (.own k), some (.dat (iv (thg f n bs))), some (.own B.S.length), none], (B.S ++ [some (Ob.ins c_Rules [] [])]).set B.S.length (some (.ins c_Rules bodyNs (bodyDs bs)))⟩
  generalize (B.S ++ [some (Ob.ins c_Rules [] [])]).set B.S.length (some (.ins c_Rules bodyNs (bodyDs bs))) = S1 at et ek1 kp ln ⊢
  refine ⟨_, rfl, bodyNs, bodyDs bs, _, ⟨_, et, rfl⟩, rfl, _, rfl, k, rfl, [], [], ek1, by decide, ?_⟩
  refine ⟨_, rfl, bodyNs, bodyDs bs, _, ⟨_, get_set et kl, rfl⟩, rfl, _, rfl, k, rfl, _, _, set_get ek1, by show 1 < 1000; decide, ?_⟩
  have p1 : put2 "start" (D.int (bs.headD 0)) (["body"] : List Str) [iv bs] = ((["body", "start"] : List Str), [iv bs, D.int (bs.headD 0)]) := put2_new (by decide +kernel) rfl
  have p2 : ∀ a : Addr, put2 "taken" (D.con (.ref a)) (["body", "start"] : List Str) [iv bs, .int (bs.headD 0)] = (progNs, progDs bs a) := fun a => put2_new (by decide +kernel) rfl
  show Va.dSeq _ _ _ ⟨[some (.own k), some (.dat (iv (thg f n bs))), some (.own B.S.length), none], (S1.set k (some (Ob.ins c_Program ["body"] [iv bs]))).set k (some (Ob.ins c_Program (put2 "start" (D.int (bs.headD 0)) ["body"] [iv bs]).1 (put2 "start" (D.int (bs.headD 0)) ["body"] [iv bs]).2))⟩
  rw [p1, List.set_set]
  have et2 : (S1.set k (some (Ob.ins c_Program ["body", "start"] [iv bs, .int (bs.headD 0)])))[B.S.length]? = some (some (Ob.ins c_Rules bodyNs (bodyDs bs))) := get_set et kl
  have ek2 : (S1.set k (some (Ob.ins c_Program ["body", "start"] [iv bs, .int (bs.headD 0)])))[k]? = some (some (Ob.ins c_Program ["body", "start"] [iv bs, .int (bs.headD 0)])) := set_get ek1
  have kp2 : ∀ i, i < B.S.length → i ≠ k → (S1.set k (some (Ob.ins c_Program ["body", "start"] [iv bs, .int (bs.headD 0)])))[i]? = B.S[i]? := fun i hi ne => by
    rw [List.getElem?_set_ne (Ne.symm ne), kp i hi]
  have ln2 : (S1.set k (some (Ob.ins c_Program ["body", "start"] [iv bs, .int (bs.headD 0)]))).length = B.S.length + 1 := by rw [List.length_set, ln]
  generalize S1.set k (some (Ob.ins c_Program ["body", "start"] [iv bs, .int (bs.headD 0)])) = S2 at et2 ek2 kp2 ln2 ⊢
  refine ⟨_, rfl, k, S2.length, .dct [] [], _, _, _, rfl, rfl, by omega, push_get, get_push ek2, rfl, by show 2 < 1000; decide, fun a => ?_⟩
  have r2 : re (Ob.ins c_Program ["body", "start"] [iv bs, D.int (bs.headD 0)]) (Ob.ins c_Program (put2 "taken" (D.con (.ref a)) (["body", "start"] : List Str) [iv bs, D.int (bs.headD 0)]).1 (put2 "taken" (D.con (.ref a)) (["body", "start"] : List Str) [iv bs, D.int (bs.headD 0)]).2) = Ob.ins c_Program progNs (progDs bs a) := by
    rw [p2 a]
    rfl
  rw [r2]
  refine cutQ (δ' := ⟨[some (.own k), some (.dat (iv (thg f n bs))), some (.own B.S.length), none], ((S2 ++ [some (Ob.dct [] [])]).set S2.length (some (Ob.pin a (.dct [] [])))).set k (some (Ob.ins c_Program progNs (progDs bs a)))⟩) rfl ?_
  have jk : ¬ (S2.length = k) := by omega
  have et3 : (((S2 ++ [some (Ob.dct [] [])]).set S2.length (some (Ob.pin a (.dct [] [])))).set k (some (Ob.ins c_Program progNs (progDs bs a))))[B.S.length]? = some (some (Ob.ins c_Rules bodyNs (bodyDs bs))) := get_set (get_set (get_push et2) (by omega)) kl
  have ek3 : (((S2 ++ [some (Ob.dct [] [])]).set S2.length (some (Ob.pin a (.dct [] [])))).set k (some (Ob.ins c_Program progNs (progDs bs a))))[k]? = some (some (Ob.ins c_Program progNs (progDs bs a))) := set_get (get_set (get_push ek2) jk)
  have ej3 : (((S2 ++ [some (Ob.dct [] [])]).set S2.length (some (Ob.pin a (.dct [] [])))).set k (some (Ob.ins c_Program progNs (progDs bs a))))[S2.length]? = some (some (Ob.pin a (.dct [] []))) := get_set (set_get push_get) (fun z => jk z.symm)
  have kp3 : ∀ i, i < B.S.length → i ≠ k → (((S2 ++ [some (Ob.dct [] [])]).set S2.length (some (Ob.pin a (.dct [] [])))).set k (some (Ob.ins c_Program progNs (progDs bs a))))[i]? = B.S[i]? := fun i hi ne => by
    rw [List.getElem?_set_ne (Ne.symm ne), List.getElem?_set_ne (by omega), List.getElem?_append_left (by omega), kp2 i hi ne]
  have ln3 : (((S2 ++ [some (Ob.dct [] [])]).set S2.length (some (Ob.pin a (.dct [] [])))).set k (some (Ob.ins c_Program progNs (progDs bs a)))).length = S2.length + 1 := by simp
  generalize ((S2 ++ [some (Ob.dct [] [])]).set S2.length (some (Ob.pin a (.dct [] [])))).set k (some (Ob.ins c_Program progNs (progDs bs a))) = S3 at et3 ek3 ej3 kp3 ln3 ⊢
  have hrl : (rulesB bs).length ≤ 900000 := by
    have z := congrArg List.length (rulesOf_sum (n := bs.length) (r := bs.drop 1) (Sgn.suf hs (List.drop_suffix _ _)))
    rw [List.length_append, List.length_drop] at z
    have y := rusI_few (rs := rulesB bs)
    have z : (rusI (rulesB bs)).length + (rulesOf bs.length (bs.drop 1)).2.length = bs.length - 1 := z
    omega
  refine ⟨_, rfl, bodyNs, bodyDs bs, _, ⟨_, et3, rfl⟩, rfl, rusV (rulesB bs), .inr rfl, fun i δ => ∃ (y : Option W) (S' : Own), δ = ⟨[some (.own k), some (.dat (iv (thg f n bs))), some (.own B.S.length), y], S'⟩ ∧ S'[k]? = some (some (Ob.ins c_Program progNs (progDs bs a))) ∧
    S'[S2.length]? = some (some (Ob.pin a (.dct (takeR ((rulesB bs).take i)).1 (takeR ((rulesB bs).take i)).2))) ∧ (∀ i, i < B.S.length → i ≠ k → S'[i]? = B.S[i]?) ∧ B.S.length ≤ S'.length ∧ (takeR ((rulesB bs).take i)).1.length ≤ i, ?_, ?_, ?_⟩
  · exact ⟨none, S3, rfl, ek3, ej3, kp3, by omega, Nat.le_refl _⟩
  · rintro i d _ hi ⟨y, S', rfl, ek', ej', kp', ln', lk'⟩
    obtain ⟨u, eu, rfl⟩ := map_get hi
    have hil : i < (rulesB bs).length := (List.getElem?_eq_some_iff.mp eu).1
    have tk : takeR ((rulesB bs).take (i + 1)) = tk1 (takeR ((rulesB bs).take i)) u := by
      rw [List.take_add_one, eu]
      exact takeR_snoc _ _
    refine ⟨_, rfl, progNs, progDs bs a, a, S2.length, _, ⟨_, ek', rfl⟩, rfl, ej', S2.length, _, _, _, rfl, ej', rfl, _, rfl, _, rfl, .inl ⟨_, _, .inr rfl, atI_nat (j := 0) rfl, _, rfl, _, rfl, .inl ⟨_, _, .inr rfl, atI_nat (j := 1) rfl, by show 2 ≤ sizeLine; decide, _, rfl, ruK u, Ru.v u, _, _, _, by rw [ruK_d], ej', rfl, Nat.lt_of_le_of_lt (m := 900000) (by omega) (by decide), fun z hz => ?_, fun hn => ?_⟩⟩⟩
    · refine ⟨_, S', rfl, ek', ?_, kp', ln', ?_⟩
      · rw [tk]
        unfold tk1
        rw [hz]
        exact ej'
      · rw [tk]
        unfold tk1
        rw [hz]
        show (takeR ((rulesB bs).take i)).1.length ≤ i + 1
        omega
    · refine ⟨_, _, rfl, get_set ek' jk, ?_, fun i hi ne => ?_, by rw [List.length_set]; exact ln', ?_⟩
      · rw [tk]
        unfold tk1
        rw [hn]
        exact set_get ej'
      · rw [List.getElem?_set_ne (by omega)]
        exact kp' i hi ne
      · rw [tk]
        unfold tk1
        rw [hn]
        show ((takeR ((rulesB bs).take i)).1 ++ [ruK u]).length ≤ i + 1
        rw [List.length_append]
        show _ + 1 ≤ _
        omega
  · rintro _ ⟨y, S', rfl, ek', ej', kp', ln', _⟩
    rw [show (rusV (rulesB bs)).length = (rulesB bs).length from List.length_map .., List.take_length] at ej'
    exact q S' _ a (by omega) kp' ln' ek' ej'

theorem ok_Program_rule_for (T : Tx K mg fI fI_TooLong fI_Finished fI_NothingDone c_MadeError c_BadRow c_BadThing c_BadForm c_BadSign c_TooLong c_Finished c_NothingDone c_Rules c_Program c_Machine) {f : Addr} {fd : FuncData} (F : Fun K "rule_for" "Program.rule_for" s_Program_rule_for f fd) : FnOk P w K mg base (L2.CX P w) 1 f fd ["self", "stand", "sign"] (lift (sdRuleFor c_Program)) := by
  refine fn_vN F sc_Program_rule_for (fun ws S Q E h => ?_) (fun cdv A outer s B ws Q Ed E hr le h => ⟨_,
      (vs_cons (v_if (vt_din (pc_din (Nat.lt_of_le_of_lt (Nat.add_le_add_left (by decide : 1 ≤ 64) _) hr.units) (v_tup (va_cons (vv 1 (pv 1)) (va_cons (vv 2 (pv 2)) va_nil))) (v_fldP T.k_Program.cl T.n_Program_taken (vv 0 (pv 0)))))
        (vs_one (v_ret (v_dget (pe_dget (Nat.lt_of_le_of_lt (Nat.add_le_add_left (by decide : 1 ≤ 64) _) hr.units) (v_fldP T.k_Program.cl T.n_Program_taken (vv 0 (pv 0))) (v_tup (va_cons (vv 1 (pv 1)) (va_cons (vv 2 (pv 2)) va_nil))) (fun _ _ => rfl)))))
        vs_nil)
      (vs_one (v_ret (v_dget1 (pe_dget1 (Nat.lt_of_le_of_lt (Nat.add_le_add_left (by decide : 1 ≤ 64) _) hr.units) (v_fldP T.k_Program.cl T.n_Program_taken (vv 0 (pv 0))) (v_tup (va_cons (vv 1 (pv 1)) (va_cons v_str va_nil))) ⟨by rfl, by rfl, by rfl, by rfl⟩))))), ?_⟩)
  · obtain ⟨w, s, g, ns, ds, a, j, ob, ks, vs, rfl, _⟩ := h
    rfl
  obtain ⟨w, s, g, ns, ds, a, j, ob, ks, vs, rfl, pk, ef, ej, c, q⟩ := h
  have two : 2 ≤ sizeLine := by decide
  have pc := pk_core ej c
  refine ⟨_, rfl, _, rfl, two, _, rfl, ns, ds, a, j, ob, pk, ef, ej, [.inl s, .inl g], ks, vs, rfl, pc, _, rfl, ?_⟩
  cases e : valD ks vs [.inl s, .inl g] with
  | some d =>
    rw [e] at q
    exact iteT ⟨_, rfl, ns, ds, a, j, ob, pk, ef, ej, _, rfl, _, rfl, two, [.inl s, .inl g], ks, vs, d, rfl, pc, e, q⟩
  | none =>
    rw [e] at q
    exact iteF ⟨_, rfl, ns, ds, a, j, ob, pk, ef, ej, ks, vs, pc, _, rfl, two, [.inl s, .inr "other"], ks, vs, rfl, pc, q⟩

theorem ok_Program_rule_at_end (T : Tx K mg fI fI_TooLong fI_Finished fI_NothingDone c_MadeError c_BadRow c_BadThing c_BadForm c_BadSign c_TooLong c_Finished c_NothingDone c_Rules c_Program c_Machine) {f : Addr} {fd : FuncData} (F : Fun K "rule_at_end" "Program.rule_at_end" s_Program_rule_at_end f fd) : FnOk P w K mg base (L2.CX P w) 1 f fd ["self", "stand"] (lift (sdAtEnd c_Program)) := by
  refine fn_vN F sc_Program_rule_at_end (fun ws S Q E h => ?_) (fun cdv A outer s B ws Q Ed E hr le h => ⟨_,
      (vs_one (v_ret (v_dget1 (pe_dget1 (Nat.lt_of_le_of_lt (Nat.add_le_add_left (by decide : 1 ≤ 64) _) hr.units) (v_fldP T.k_Program.cl T.n_Program_taken (vv 0 (pv 0))) (v_tup (va_cons (vv 1 (pv 1)) (va_cons v_str va_nil))) ⟨by rfl, by rfl, by rfl, by rfl⟩)))), ?_⟩)
  · obtain ⟨w, s, ns, ds, a, j, ob, ks, vs, rfl, _⟩ := h
    rfl
  obtain ⟨w, s, ns, ds, a, j, ob, ks, vs, rfl, pk, ef, ej, c, q⟩ := h
  exact ⟨_, rfl, ns, ds, a, j, ob, pk, ef, ej, ks, vs, pk_core ej c, _, rfl, by show 2 ≤ sizeLine; decide, [.inl s, .inr "end"], ks, vs, rfl, pk_core ej c, q⟩

theorem ok_own_row (T : Tx K mg fI fI_TooLong fI_Finished fI_NothingDone c_MadeError c_BadRow c_BadThing c_BadForm c_BadSign c_TooLong c_Finished c_NothingDone c_Rules c_Program c_Machine) (Df : Dx K mg "own_row" s_own_row ["body", "first", "by"]) (C_shifted : Fd.Pr P w K mg base 1 "shifted" ["row", "by"] (lift sdShifted)) : Fd.Pr P w K mg base 3 "own_row" ["body", "first", "by"] (lift sdOwnRow) := by
  refine Va.Dx.prV Df sc_own_row (fun ws S Q E h => ?_) (fun f cdv A outer s B ws Q Ed E hr le h => ⟨_,
      (vs_one (v_ret (v_call le (pe_callP C_shifted (hr.mono (by decide)) (by rfl) (passes_call (takes_of rfl rfl rfl rfl) fun _ _ _ _ z => z) (va_cons (v_op o_catA (v_tup (va_cons (vv 1 (pv 1)) va_nil)) (v_slice s_tup (vv 0 (pv 0)) (vo_some v_int) vo_none)) (va_cons (vv 2 (pv 2)) va_nil)))))), ?_⟩)
  · obtain ⟨bs, j, k, rfl, _⟩ := h
    rfl
  obtain ⟨bs, j, k, rfl, hb, q⟩ := h
  walk_at "go"
  rw [show cutD (bs.map D.int) (some 1) none = (bs.drop 1).map D.int from by rw [List.map_drop]; exact cutD_from _ 1]
  walk_at "go"
  refine ⟨false, j :: bs.drop 1, k, rfl, by simp; omega, ?_⟩
  exact rt_pd Gp.refl q

theorem ok_rule_size (T : Tx K mg fI fI_TooLong fI_Finished fI_NothingDone c_MadeError c_BadRow c_BadThing c_BadForm c_BadSign c_TooLong c_Finished c_NothingDone c_Rules c_Program c_Machine) (Df : Dx K mg "rule_size" s_rule_size ["rule", "body"]) : Fd.Pr P w K mg base 1 "rule_size" ["rule", "body"] (lift sdSize) := by
  refine Va.Dx.prV Df sc_rule_size (fun ws S Q E h => ?_) (fun f cdv A outer s B ws Q Ed E hr le h => ⟨_,
      (vs_cons (v_set _ (ps_set (i := 2) sc_rule_size.nd rfl (Or.inl rfl) v_int))
      (vs_cons (v_for (ps_for (passes_of rfl) rfl (pi_seq (v_ixI (vv 0 (pv 0)) v_int)) (vg_name (pg_name (i := 3) sc_rule_size.nd rfl (Or.inl rfl)))
        (vs_one (v_if (vt_cmp o_eq (v_ixI (vv 3 (pv 3)) v_int) v_str)
          (vs_one (v_aug (ps_aug (i := 2) sc_rule_size.nd rfl (Or.inl rfl) (v_cb up_lenI (pe_callB call_len (by rfl) T.n.n_len (by decide +kernel) (va_cons (v_ixI (vv 3 (pv 3)) v_int) va_nil))) ip_add)))
          (vs_one (v_if (vt_cmp o_eq (v_ixI (vv 3 (pv 3)) v_int) v_str)
            (vs_one (v_aug (ps_aug (i := 2) sc_rule_size.nd rfl (Or.inl rfl) (v_cb up_lenI (pe_callB call_len (by rfl) T.n.n_len (by decide +kernel) (va_cons (vv 1 (pv 1)) va_nil))) ip_add)))
            (vs_one (v_if (vt_cmp o_ne (v_ixI (vv 0 (pv 0)) v_int) v_str)
              (vs_one (v_aug (ps_aug (i := 2) sc_rule_size.nd rfl (Or.inl rfl) v_int ip_add)))
              vs_nil))))))))
      (vs_one (v_ret (vv 2 (pv 2)))))), ?_⟩)
  · obtain ⟨u, bs, rfl, _⟩ := h
    rfl
  obtain ⟨u, bs, rfl, hi, q⟩ := h
  obtain ⟨s, wd, its, nx⟩ := u
  walk_at "go"
  refine ⟨fun i δ => ∃ y, δ = ⟨[some (.dat (Ru.v ⟨s, wd, its, nx⟩)), some (.dat (iv bs)), some (.dat (.int (szIs bs.length (wdFin wd) (its.take i) : Nat))), y], B.S⟩, ⟨none, rfl⟩, ?_, ?_⟩
  · rintro i d _ hi ⟨y, rfl⟩
    obtain ⟨it, ei, rfl⟩ := map_get hi
    have tk : its.take (i + 1) = its.take i ++ [it] := by rw [List.take_add_one, ei]; rfl
    have fin : ∀ (n : Int), n = (szIt bs.length (wdFin wd) it : Nat) → ∃ y, (⟨[some (.dat (Ru.v ⟨s, wd, its, nx⟩)), some (.dat (iv bs)), some (.dat (.int ((szIs bs.length (wdFin wd) (its.take i) : Nat) + n))), some (.dat (Itm.v it))], B.S⟩ : DS) = ⟨[some (.dat (Ru.v ⟨s, wd, its, nx⟩)), some (.dat (iv bs)), some (.dat (.int (szIs bs.length (wdFin wd) (its.take (i + 1)) : Nat))), y], B.S⟩ := fun n e => ⟨some (.dat (Itm.v it)), by rw [tk, szIs_snoc, Int.natCast_add, ← e]⟩
    cases it with
    | put xs =>
      walk_at "go"
      exact fin _ (by rw [List.length_map]; rfl)
    | own j k =>
      walk_at "go"
      exact fin _ (by rw [List.length_map]; rfl)
    | plus k =>
      cases wd with
      | sign x =>
        walk_at "go"
        exact fin 1 rfl
      | other =>
        walk_at "go"
        exact fin 1 rfl
      | fin =>
        walk_at "go"
        have z := fin 0 rfl
        rw [Int.add_zero] at z
        exact z
  rintro _ ⟨y, rfl⟩
  walk_at "go"
  rw [show (itsV its).length = its.length from List.length_map .., List.take_length]
  exact rt_pd Gp.refl q

theorem ok_rule_signs (T : Tx K mg fI fI_TooLong fI_Finished fI_NothingDone c_MadeError c_BadRow c_BadThing c_BadForm c_BadSign c_TooLong c_Finished c_NothingDone c_Rules c_Program c_Machine) (Df : Dx K mg "rule_signs" s_rule_signs ["rule", "sign", "body"]) (C_own_row : Fd.Pr P w K mg base 3 "own_row" ["body", "first", "by"] (lift sdOwnRow)) : Fd.Pr P w K mg base 4 "rule_signs" ["rule", "sign", "body"] (lift sdSignsR) := by
  refine Va.Dx.prV Df sc_rule_signs (fun ws S Q E h => ?_) (fun f cdv A outer s B ws Q Ed E hr le h => ⟨_,
      (vs_cons (v_set _ (ps_set (i := 3) sc_rule_signs.nd rfl (Or.inl rfl) (v_lst va_nil)))
      (vs_cons (v_for (ps_for (passes_of rfl) rfl (pi_seq (v_ixI (vv 0 (pv 0)) v_int)) (vg_name (pg_name (i := 4) sc_rule_signs.nd rfl (Or.inl rfl)))
        (vs_one (v_if (vt_cmp o_eq (v_ixI (vv 4 (pv 4)) v_int) v_str)
          (vs_one (v_expr (v_extT (pe_bm PySem.F.plainAttrs_list PySem.F.slot_list_extend PySem.F.type_list_extend mt_extendT (vv 3 (pv 3)) (va_cons (v_ixI (vv 4 (pv 4)) v_int) va_nil)))))
          (vs_one (v_if (vt_cmp o_eq (v_ixI (vv 4 (pv 4)) v_int) v_str)
            (vs_one (v_expr (v_extT (pe_bm PySem.F.plainAttrs_list PySem.F.slot_list_extend PySem.F.type_list_extend mt_extendT (vv 3 (pv 3)) (va_cons (v_call le (pe_callP C_own_row (hr.mono (by decide)) (by rfl) (passes_call (takes_of rfl rfl rfl rfl) fun _ _ _ _ z => z) (va_cons (vv 2 (pv 2)) (va_cons (v_ixI (vv 4 (pv 4)) v_int) (va_cons (v_ixI (vv 4 (pv 4)) v_int) va_nil))))) va_nil)))))
            (vs_one (v_if (vt_cmp o_notN (vv 1 (pv 1)) v_non)
              (vs_one (v_expr (v_app (pe_bm PySem.F.plainAttrs_list PySem.F.slot_list_append PySem.F.type_list_append mt_append (vv 3 (pv 3)) (va_cons (v_op o_mod (v_op o_add (vv 1 (pv 1)) (v_ixI (vv 4 (pv 4)) v_int)) (v_cst (pe_cst T.c_SIGNS))) va_nil)))))
              vs_nil))))))))
      (vs_one (v_ret (vv 3 (pv 3)))))), ?_⟩)
  · obtain ⟨u, sg, bs, rfl, _⟩ := h
    rfl
  obtain ⟨u, sg, bs, rfl, hi, hb, ho, q⟩ := h
  obtain ⟨s, wd, its, nx⟩ := u
  walk_at "go"
  have hpre : ∀ i, (outIs bs sg (its.take i)).length ≤ 20000 := fun i => by
    refine Nat.le_trans ?_ ho
    show _ ≤ (outIs bs sg its).length
    have z : its = its.take i ++ its.drop i := (List.take_append_drop i its).symm
    rw [show (outIs bs sg its).length = (outIs bs sg (its.take i ++ its.drop i)).length from by rw [← z]]
    unfold outIs
    rw [List.map_append, List.flatten_append, List.length_append]
    omega
  refine ⟨fun i δ => ∃ y S', δ = ⟨[some (.dat (Ru.v ⟨s, wd, its, nx⟩)), some (.dat (sgV sg)), some (.dat (iv bs)), some (.own B.S.length), y], S'⟩ ∧ Gp B.S S' ∧ S'[B.S.length]? = some (some (.lst ((outIs bs sg (its.take i)).map D.int))), ⟨none, _, rfl, Gp.refl.push _, push_get⟩, ?_, ?_⟩
  · rintro i d _ hd ⟨y, S', rfl, g, eS⟩
    obtain ⟨it, ei, rfl⟩ := map_get hd
    have tk : its.take (i + 1) = its.take i ++ [it] := by rw [List.take_add_one, ei]; rfl
    have p1 := hpre (i + 1)
    have p0 := hpre i
    rw [tk, outIs_snoc, List.length_append] at p1
    cases it with
    | put xs =>
      have hx : xs.length ≤ 20000 := by have : (outIt bs sg (.put xs)).length = xs.length := rfl; omega
      walk_at "go"
      exact ⟨g.set (Nat.le_refl _) _, by rw [set_get eS, tk, outIs_snoc, List.map_append]; rfl⟩
    | own j k =>
      have hx : (shiftI k (j :: bs.drop 1)).length ≤ 20000 := by have : (outIt bs sg (.own j k)).length = (shiftI k (j :: bs.drop 1)).length := rfl; omega
      walk_at "go"
      exact ⟨g.set (Nat.le_refl _) _, by rw [set_get eS, tk, outIs_snoc, List.map_append]; rfl⟩
    | plus k =>
      cases sg with
      | none =>
        walk_at "go"
        rw [tk, outIs_snoc, show outIt bs none (.plus k) = [] from rfl, List.append_nil]
        exact eS
      | some x =>
        walk_at "go"
        exact ⟨g.set (Nat.le_refl _) _, by rw [set_get eS, tk, outIs_snoc, List.map_append]; rfl⟩
  rintro _ ⟨y, S', rfl, g, eS⟩
  walk_at "go"
  rw [show (itsV its).length = its.length from List.length_map .., List.take_length] at eS
  refine .inr ⟨Nat.le_refl _, _, eS, ?_⟩
  rw [show S'.take B.S.length = B.S from g]
  exact q

theorem ok_Machine_write (T : Tx K mg fI fI_TooLong fI_Finished fI_NothingDone c_MadeError c_BadRow c_BadThing c_BadForm c_BadSign c_TooLong c_Finished c_NothingDone c_Rules c_Program c_Machine) {f : Addr} {fd : FuncData} (F : Fun K "_write" "Machine._write" s_Machine_write f fd) (C_rule_size : Fd.Pr P w K mg base 1 "rule_size" ["rule", "body"] (lift sdSize)) (C_rule_signs : Fd.Pr P w K mg base 4 "rule_signs" ["rule", "sign", "body"] (lift sdSignsR)) (I_TooLong : InitOk0 P w K mg base 2 fI_TooLong) : FnOk P w K mg base (L2.CX P w) 7 f fd ["self", "rule", "sign"] (lift (sdWrite c_Machine c_Program c_TooLong)) := by
  refine fn_vN F sc_Machine_write (fun ws S Q E h => ?_) (fun cdv A outer s B ws Q Ed E hr le h => ⟨_,
      (vs_cons (v_if (vt_cmp o_isN (vv 1 (pv 1)) v_non)
        (vs_one v_retN)
        vs_nil)
      (vs_cons (v_if (vt_cmp o_gt (v_op o_add (v_cb up_lenI (pe_callB call_len (by rfl) T.n.n_len (by decide +kernel) (va_cons (v_fldP T.k_Machine.cl T.n_Machine__written (vv 0 (pv 0))) va_nil))) (v_call le (pe_callP C_rule_size (hr.mono (by decide)) (by rfl) (passes_call (takes_of rfl rfl rfl rfl) fun _ _ _ _ z => z) (va_cons (vv 1 (pv 1)) (va_cons (v_fld T.k_Program.cl T.n_Program_body (v_fldP T.k_Machine.cl T.n_Machine__program (vv 0 (pv 0)))) va_nil))))) (v_cst (pe_cst T.c_MOST_WRITTEN)))
        (vs_one (v_raise0 le (ps_raise rfl (takes_of rfl rfl rfl rfl) (pmk_made0 T.x_TooLong I_TooLong (hr.mono (by decide)) (passes_call (takes_of rfl rfl rfl rfl) fun _ _ _ _ z => z.elim) (by rfl)))))
        vs_nil)
      (vs_one (v_expr (v_extR (pe_bm PySem.F.plainAttrs_list PySem.F.slot_list_extend PySem.F.type_list_extend mt_extend (v_fldP T.k_Machine.cl T.n_Machine__written (vv 0 (pv 0))) (va_cons (v_call le (pe_callP C_rule_signs (hr.mono (by decide)) (by rfl) (passes_call (takes_of rfl rfl rfl rfl) fun _ _ _ _ z => z) (va_cons (vv 1 (pv 1)) (va_cons (vv 2 (pv 2)) (va_cons (v_fld T.k_Program.cl T.n_Program_body (v_fldP T.k_Machine.cl T.n_Machine__program (vv 0 (pv 0)))) va_nil))))) va_nil))))))), ?_⟩)
  · unfold sdWrite at h
    obtain ⟨I, th, bs, row, m, sg, ru, rfl, _⟩ := h
    rfl
  unfold sdWrite at h
  obtain ⟨I, th, bs, row, m, sg, ru, rfl, ⟨aP, aT, aW, aL, M⟩, hb, hw, hu, q0, q1⟩ := h
  cases ru with
  | none =>
    walk_at "go"
    exact q0 rfl
  | some u =>
    obtain ⟨q1, q2⟩ := q1 u rfl
    obtain ⟨u1, u2, u3⟩ := hu u rfl
    have ek := M.ek
    have ep := M.ep
    have ew := M.ew
    walk_at "go"
    have el : (m.written ++ outIs bs sg u.items).length = m.written.length + szIs bs.length (wdFin u.word) u.items := by rw [List.length_append, szIs_len u3, u2]
    have em : (m.written.map D.int).length = m.written.length := List.length_map ..
    by_cases c : (m.written ++ outIs bs sg u.items).length ≤ 20000
    · refine ifF (decide_eq_false (by omega)) ?_
      have eo : (outIs bs sg u.items).length ≤ 20000 := by rw [List.length_append] at c; omega
      walk_at "go"
      refine q1 _ _ (if_pos c) ((Fr.refl.push).set (.inr (.inl rfl))) ⟨aP, aT, aW, aL, ?_⟩
      rw [← List.map_append]
      exact M.push.setw _
    · exact ifT (decide_eq_true (by omega)) (q2 (if_neg c))

theorem ok_Machine_read (T : Tx K mg fI fI_TooLong fI_Finished fI_NothingDone c_MadeError c_BadRow c_BadThing c_BadForm c_BadSign c_TooLong c_Finished c_NothingDone c_Rules c_Program c_Machine) {f : Addr} {fd : FuncData} (F : Fun K "_read" "Machine._read" s_Machine_read f fd) (M_Program_rule_for : MetF P w K mg base 1 c_Program "rule_for" ["self", "stand", "sign"] (sdRuleFor c_Program)) (M_Machine_write : MetF P w K mg base 7 c_Machine "_write" ["self", "rule", "sign"] (sdWrite c_Machine c_Program c_TooLong)) : FnOk P w K mg base (L2.CX P w) 8 f fd ["self", "sign"] (lift (sdRead c_Machine c_Program c_TooLong)) := by
  refine fn_vN F sc_Machine_read (fun ws S Q E h => ?_) (fun cdv A outer s B ws Q Ed E hr le h => ⟨_,
      (vs_cons (v_set _ (ps_set (i := 2) sc_Machine_read.nd rfl (Or.inl rfl) (v_meth le (pe_methM M_Program_rule_for T.k_Program.cl (hr.mono (by decide)) (passes_call (takes_of rfl rfl rfl rfl) fun _ _ _ _ z => z) (v_fldP T.k_Machine.cl T.n_Machine__program (vv 0 (pv 0))) (va_cons (v_fld T.k_Machine.cl T.n_Machine__stand (vv 0 (pv 0))) (va_cons (vv 1 (pv 1)) va_nil))))))
      (vs_cons (v_if (vt_cmp o_isN (vv 2 (pv 2)) v_non)
        (vs_cons (v_sfldR T.k_Machine.cl T.n_Machine__over (ps_fld (vv 0 (pv 0)) v_bl rfl))
        (vs_one v_retN))
        vs_nil)
      (vs_cons (v_expr (v_meth le (pe_methM M_Machine_write T.k_Machine.cl (hr.mono (by decide)) (passes_call (takes_of rfl rfl rfl rfl) fun _ _ _ _ z => z) (vv 0 (pv 0)) (va_cons (vv 2 (pv 2)) (va_cons (vv 1 (pv 1)) va_nil)))))
      (vs_cons (v_fldaug T.k_Machine.cl T.n_Machine__at (ps_fldaug (vv 0 (pv 0)) v_int in_add))
      (vs_one (v_sfldR T.k_Machine.cl T.n_Machine__stand (ps_fld (vv 0 (pv 0)) (v_ixI (vv 2 (pv 2)) v_int) rfl))))))), ?_⟩)
  · unfold sdRead at h
    obtain ⟨I, th, bs, row, m, s, rfl, _⟩ := h
    rfl
  unfold sdRead at h
  obtain ⟨I, th, bs, row, m, s, rfl, ⟨aP, aT, aW, aL, M⟩, ok, q1, q2⟩ := h
  have ek := M.ek
  have ep := M.ep
  have et := M.et
  have el : core (Ob.dct (takeR (rulesB bs)).1 (takeR (rulesB bs)).2) = Ob.dct (takeR (rulesB bs)).1 (takeR (rulesB bs)).2 := rfl
  walk_at "go"
  rw [rule_for_eq]
  cases e : ruleFor (rulesB bs) m.stand s with
  | none =>
    walk_at "go"
    simp only [f_over, re]
    exact q1 { m with over := true } _ (by unfold readM; rw [e]) (Fr.refl.set (.inl rfl)) ⟨aP, aT, aW, aL, M.setk _ _ _⟩
  | some u =>
    obtain ⟨hu, hf⟩ := ruleFor_ok e
    have ou := ok.ok u hu
    walk_at "go"
    unfold sdWrite
    refine ⟨I, th, bs, row, m, some s, some u, rfl, ⟨aP, aT, aW, aL, M⟩, ok.bl, ok.wr, ?_, (fun z => nomatch z), ?_⟩
    · rintro _ ⟨⟩
      exact ⟨ou.few, hf, ok.bn fun z => by rw [z] at hu; cases hu⟩
    rintro _ ⟨⟩
    refine ⟨?_, fun hl => q2 (by unfold readM; rw [e]; show Option.map _ (lim _) = none; rw [hl]; rfl)⟩
    rintro w' S' hl fr ⟨aP, aT, aW, aL, M⟩
    have ek := M.ek
    walk_at "go"
    have y := f_at1 th row aP aW aL ⟨m.at_, m.stand, m.over, w', m.past⟩
    dsimp only at y
    rw [y, next_ok ou hf]
    refine ⟨by show 8 < 1000; decide, ?_⟩
    simp only [re, List.set_set]
    have z := f_stand th row aP aW aL ⟨m.at_ + 1, m.stand, m.over, w', m.past⟩ (nxt u)
    dsimp only at z
    rw [z]
    exact q1 ⟨m.at_ + 1, nxt u, m.over, w', m.past⟩ _ (by unfold readM; rw [e]; show Option.map _ (lim _) = _; rw [hl]; rfl) (fr.set (.inl rfl)) ⟨aP, aT, aW, aL, M.setk _ _ _⟩

theorem ok_Machine_step (T : Tx K mg fI fI_TooLong fI_Finished fI_NothingDone c_MadeError c_BadRow c_BadThing c_BadForm c_BadSign c_TooLong c_Finished c_NothingDone c_Rules c_Program c_Machine) {f : Addr} {fd : FuncData} (F : Fun K "step" "Machine.step" s_Machine_step f fd) (M_Program_rule_at_end : MetF P w K mg base 1 c_Program "rule_at_end" ["self", "stand"] (sdAtEnd c_Program)) (M_Machine_write : MetF P w K mg base 7 c_Machine "_write" ["self", "rule", "sign"] (sdWrite c_Machine c_Program c_TooLong)) (M_Machine_read : MetF P w K mg base 8 c_Machine "_read" ["self", "sign"] (sdRead c_Machine c_Program c_TooLong)) (I_Finished : InitOk0 P w K mg base 2 fI_Finished) : FnOk P w K mg base (L2.CX P w) 9 f fd ["self"] (lift (sdStep c_Machine c_Program c_TooLong c_Finished)) := by
  refine fn_vN F sc_Machine_step (fun ws S Q E h => ?_) (fun cdv A outer s B ws Q Ed E hr le h => ⟨_,
      (vs_cons (v_if (vt_val (v_fld T.k_Machine.cl T.n_Machine__over (vv 0 (pv 0))))
        (vs_one (v_raise0 le (ps_raise rfl (takes_of rfl rfl rfl rfl) (pmk_made0 T.x_Finished I_Finished (hr.mono (by decide)) (passes_call (takes_of rfl rfl rfl rfl) fun _ _ _ _ z => z.elim) (by rfl)))))
        vs_nil)
      (vs_cons (v_set _ (ps_set (i := 1) sc_Machine_step.nd rfl (Or.inl rfl) (v_tup (va_cons (v_fld T.k_Machine.cl T.n_Machine__at (vv 0 (pv 0))) (va_cons (v_fld T.k_Machine.cl T.n_Machine__stand (vv 0 (pv 0))) (va_cons (v_cb up_lenI (pe_callB call_len (by rfl) T.n.n_len (by decide +kernel) (va_cons (v_fldP T.k_Machine.cl T.n_Machine__written (vv 0 (pv 0))) va_nil))) va_nil))))))
      (vs_cut (v_if (vt_cmp o_lt (v_fld T.k_Machine.cl T.n_Machine__at (vv 0 (pv 0))) (v_cb up_lenI (pe_callB call_len (by rfl) T.n.n_len (by decide +kernel) (va_cons (v_fld T.k_Machine.cl T.n_Machine__row (vv 0 (pv 0))) va_nil))))
        (vs_one (v_expr (v_meth le (pe_methM M_Machine_read T.k_Machine.cl (hr.mono (by decide)) (passes_call (takes_of rfl rfl rfl rfl) fun _ _ _ _ z => z) (vv 0 (pv 0)) (va_cons (v_ixI (v_fld T.k_Machine.cl T.n_Machine__row (vv 0 (pv 0))) (v_fld T.k_Machine.cl T.n_Machine__at (vv 0 (pv 0)))) va_nil)))))
        (vs_cons (v_expr (v_meth le (pe_methM M_Machine_write T.k_Machine.cl (hr.mono (by decide)) (passes_call (takes_of rfl rfl rfl rfl) fun _ _ _ _ z => z) (vv 0 (pv 0)) (va_cons (v_meth le (pe_methM M_Program_rule_at_end T.k_Program.cl (hr.mono (by decide)) (passes_call (takes_of rfl rfl rfl rfl) fun _ _ _ _ z => z) (v_fldP T.k_Machine.cl T.n_Machine__program (vv 0 (pv 0))) (va_cons (v_fld T.k_Machine.cl T.n_Machine__stand (vv 0 (pv 0))) va_nil))) (va_cons v_non va_nil)))))
        (vs_one (v_sfldR T.k_Machine.cl T.n_Machine__over (ps_fld (vv 0 (pv 0)) v_bl rfl)))))
      (vs_one (v_expr (v_appR (pe_bm PySem.F.plainAttrs_list PySem.F.slot_list_append PySem.F.type_list_append mt_append (v_fldP T.k_Machine.cl T.n_Machine__past (vv 0 (pv 0))) (va_cons (vv 1 (pv 1)) va_nil)))))))), ?_⟩)
  · unfold sdStep at h
    obtain ⟨I, th, bs, row, m, rfl, _⟩ := h
    rfl
  unfold sdStep at h
  obtain ⟨I, th, bs, row, m, rfl, ⟨aP, aT, aW, aL, M⟩, ok, q1, q2⟩ := h
  have ek := M.ek
  have ep := M.ep
  have et := M.et
  have ew := M.ew
  walk_at "go"
  cases o : m.over with
  | true => exact ifT rfl (q1 o)
  | false =>
    refine ifF rfl ?_
    obtain ⟨q2, q3⟩ := q2 o
    walk_at "go"
    refine ⟨fun δ => ∃ S' m1, δ = ⟨[some (.own I.k), some (.dat (pastD (m.at_, m.stand, m.written.length)))], S'⟩ ∧ Fr B.S S' I ∧ MachAt c_Machine c_Program S' I th bs row m1 ∧ stepM (rulesB bs) bs row m = some { m1 with past := m.past ++ [(m.at_, m.stand, m.written.length)] } ∧ m1.past = m.past, ?_, ?_⟩
    · walk_at "go"
      rw [List.length_map] 
      by_cases c : m.at_ < row.length
      · refine ifT (decide_eq_true (by simp; omega)) ?_
        have ec : row[m.at_]? = some row[m.at_] := List.getElem?_eq_getElem c
        generalize row[m.at_] = s at ec
        have ed : (row.map D.int)[m.at_]? = some (D.int s) := by rw [List.getElem?_map, ec]; rfl
        walk_at "go"
        unfold sdRead
        refine ⟨I, th, bs, row, m, s, rfl, ⟨aP, aT, aW, aL, M⟩, ok, ?_, ?_⟩
        · intro m1 S' h1 fr M1
          exact ⟨S', m1, by rw [List.length_map]; rfl, fr, M1, by unfold stepM; rw [ec]; show Option.map _ (readM _ _ _ _) = _; rw [h1]; rfl, readM_past h1⟩
        · intro h1
          exact q3 (by unfold stepM; rw [ec]; show Option.map _ (readM _ _ _ _) = _; rw [h1]; rfl)
      · refine ifF (decide_eq_false (by simp; omega)) ?_
        have ec : row[m.at_]? = none := List.getElem?_eq_none (by omega)
        walk_at "go"
        rw [rule_end_eq]
        walk_at "go"
        unfold sdWrite
        have hE : ∀ u, ruleEnd' (rulesB bs) m.stand = some u → u.items.length ≤ 99 ∧ wdFin u.word = true ∧ bs ≠ [] := fun u e => by
          obtain ⟨hu, hf⟩ := ruleEnd_ok e
          exact ⟨(ok.ok u hu).few, by rw [hf]; rfl, ok.bn fun z => by rw [z] at hu; cases hu⟩
        refine ⟨I, th, bs, row, m, none, ruleEnd' (rulesB bs) m.stand, rfl, ⟨aP, aT, aW, aL, M⟩, ok.bl, ok.wr, hE, ?_, ?_⟩
        · intro e
          walk_at "go"
          refine ⟨_, ⟨m.at_, m.stand, true, m.written, m.past⟩, by simp only [re, f_over, List.length_map]; rfl, Fr.refl.set (.inl rfl), ⟨aP, aT, aW, aL, M.setk _ _ _⟩, by unfold stepM; rw [ec]; show Option.map _ (endM _ _ _) = _; unfold endM; rw [e]; rfl, rfl⟩
        · intro u e
          refine ⟨?_, fun hl => q3 (by unfold stepM; rw [ec]; show Option.map _ (endM _ _ _) = _; unfold endM; rw [e]; show Option.map _ (Option.map _ (lim _)) = _; rw [hl]; rfl)⟩
          rintro w' S' hl fr ⟨aP, aT, aW, aL, M⟩
          have ek := M.ek
          walk_at "go"
          refine ⟨_, ⟨m.at_, m.stand, true, w', m.past⟩, by simp only [re, List.length_map]; rw [show _ = _ from f_over th row aP aW aL ⟨m.at_, m.stand, m.over, w', m.past⟩ true]; rfl, fr.set (.inl rfl), ⟨aP, aT, aW, aL, M.setk _ _ _⟩, by unfold stepM; rw [ec]; show Option.map _ (endM _ _ _) = _; unfold endM; rw [e]; show Option.map _ (Option.map _ (lim _)) = _; rw [hl]; rfl, rfl⟩
    rintro _ ⟨S', m1, rfl, fr, ⟨aP, aT, aW, aL, M⟩, hs, hp⟩
    have ek := M.ek
    have el := M.el
    have hpl : (m1.past.map pastD).length ≤ 800000 := by
      have z := ok.pa
      have y := ok.at_
      have x := ok.rl
      rw [o] at z
      rw [List.length_map, hp]
      simp at z
      omega
    walk_at "go"
    refine q2 _ _ hs (fr.set (.inr (.inr (.inl rfl)))) ⟨aP, aT, aW, aL, ?_⟩
    have z := M.setl (m.past ++ [(m.at_, m.stand, m.written.length)])
    rw [List.map_append, ← hp] at z
    rw [hp] at z ⊢
    exact z

theorem ok_Machine_go (T : Tx K mg fI fI_TooLong fI_Finished fI_NothingDone c_MadeError c_BadRow c_BadThing c_BadForm c_BadSign c_TooLong c_Finished c_NothingDone c_Rules c_Program c_Machine) {f : Addr} {fd : FuncData} (F : Fun K "go" "Machine.go" s_Machine_go f fd) (M_Machine_step : MetF P w K mg base 9 c_Machine "step" ["self"] (sdStep c_Machine c_Program c_TooLong c_Finished)) : FnOk P w K mg base (L2.CX P w) 10 f fd ["self"] (lift (sdGo c_Machine c_Program)) := by
  refine fn_vN F sc_Machine_go (fun ws S Q E h => ?_) (fun cdv A outer s B ws Q Ed E hr le h => ⟨_,
      (vs_cons (v_set _ (ps_set (i := 1) sc_Machine_go.nd rfl (Or.inl rfl) (v_cb up_lenI (pe_callB call_len (by rfl) T.n.n_len (by decide +kernel) (va_cons (v_fldP T.k_Machine.cl T.n_Machine__past (vv 0 (pv 0))) va_nil)))))
      (vs_cons (v_tryNo (vs_one (v_while (ps_while PassesOwn.never (vt_not (vt_val (v_fld T.k_Machine.cl T.n_Machine__over (vv 0 (pv 0)))))
          (vs_one (v_expr (v_meth0 le0 (pe_methM0 M_Machine_step T.k_Machine.cl (hr.mono (by decide)) (passes_call takes0 fun _ _ _ _ z => z) (vv 0 (pv 0))))))))))
      (vs_one (v_ret (v_cb up_tuple (pe_callTy call_tuple_of (by rfl) T.n.n_tuple (by decide +kernel) (va_cons (v_fldP T.k_Machine.cl T.n_Machine__written (vv 0 (pv 0))) va_nil))))))), ?_⟩)
  · unfold sdGo at h
    obtain ⟨I, th, bs, row, m, m', rfl, _⟩ := h
    rfl
  unfold sdGo at h
  obtain ⟨I, th, bs, row, m, m', rfl, ⟨aP, aT, aW, aL, M⟩, ok, hr, q⟩ := h
  have ek := M.ek
  have el := M.el
  walk_at "go"
  refine ⟨fun n δ => ∃ S' m1, δ = ⟨[some (.own I.k), some (.dat (.int (m.past.length : Nat)))], S'⟩ ∧ Fr B.S S' I ∧ MachAt c_Machine c_Program S' I th bs row m1 ∧ MOk bs row m1 ∧ runM (rulesB bs) bs row m1 = some m' ∧ n = remM row m1, ⟨_, B.S, m, by rw [← List.length_map (f := pastD)]; rfl, Fr.refl, ⟨aP, aT, aW, aL, M⟩, ok, hr, rfl⟩, ?_⟩
  clear ek el M
  rintro n _ ⟨S', m1, rfl, fr, ⟨aP, aT, aW, aL, M⟩, ok1, hr1, rfl⟩
  have ek := M.ek
  have ew := M.ew
  walk_at "go"
  cases o : m1.over with
  | true =>
    refine ifF rfl ?_
    walk_at "go"
    rw [runM_over o] at hr1
    cases hr1
    exact q S' fr ⟨aP, aT, aW, aL, M⟩
  | false =>
    refine ifT rfl ⟨fun δ => ∃ S' m2, δ = ⟨[some (.own I.k), some (.dat (.int (m.past.length : Nat)))], S'⟩ ∧ Fr B.S S' I ∧ MachAt c_Machine c_Program S' I th bs row m2 ∧ MOk bs row m2 ∧ runM (rulesB bs) bs row m2 = some m' ∧ remM row m2 < remM row m1, ?_, ?_⟩
    · rintro _ ⟨S', m2, rfl, h1, h2, h3, h4, h5⟩
      exact ⟨_, h5, S', m2, rfl, h1, h2, h3, h4, rfl⟩
    walk_at "go"
    rw [runM_step ok1 o] at hr1
    unfold sdStep
    refine ⟨I, th, bs, row, m1, rfl, ⟨aP, aT, aW, aL, M⟩, ok1, (fun z => by rw [o] at z; cases z), fun _ => ⟨?_, ?_⟩⟩
    · intro m2 S2 hs fr2 M2
      rw [hs] at hr1
      obtain ⟨ok2, hrem⟩ := step_ok hs ok1 o
      exact ⟨S2, m2, rfl, fr.trans fr2, M2, ok2, hr1, hrem⟩
    · intro hs
      rw [hs] at hr1
      cases hr1

theorem ok_Machine_init (T : Tx K mg fI fI_TooLong fI_Finished fI_NothingDone c_MadeError c_BadRow c_BadThing c_BadForm c_BadSign c_TooLong c_Finished c_NothingDone c_Rules c_Program c_Machine) {f : Addr} {fd : FuncData} (F : Fun K "__init__" "Machine.__init__" s_Machine_init f fd) (C_is_thing : Fd.Pr P w K mg base 4 "is_thing" ["row"] (lift (sdDW dThing))) (C_is_row : Fd.Pr P w K mg base 3 "is_row" ["value"] (lift (sdDW dRow))) (C_Program : PrC P w K mg base 8 "Program" c_Program ["self", "thing"] (sdInitP c_Program)) (C_init : InitOk P w K mg base 1 fI) : FnOk P w K mg base (L2.CX P w) 10 f fd ["self", "thing", "row"] (lift (sdInitM c_Machine c_Program c_BadThing c_BadRow)) := by
  refine fn_vN F sc_Machine_init (fun ws S Q E h => ?_) (fun cdv A outer s B ws Q Ed E hr le h => ⟨_,
      (vs_cons (v_if (vt_not (vt_val (v_call le (pe_callP C_is_thing (hr.mono (by decide)) (by rfl) (passes_call (takes_of rfl rfl rfl rfl) fun _ _ _ _ z => z) (va_cons (vv 1 (pv 1)) va_nil)))))
        (vs_one (v_raise le (ps_raise rfl (takes_of rfl rfl rfl rfl) (pmk_made T.x_BadThing C_init (hr.mono (by decide)) (passes_call (takes_of rfl rfl rfl rfl) fun _ _ _ _ z => z.elim) (by rfl) (vv 1 (pv 1))))))
        vs_nil)
      (vs_cons (v_if (vt_not (vt_val (v_call le (pe_callP C_is_row (hr.mono (by decide)) (by rfl) (passes_call (takes_of rfl rfl rfl rfl) fun _ _ _ _ z => z) (va_cons (vv 2 (pv 2)) va_nil)))))
        (vs_one (v_raise le (ps_raise rfl (takes_of rfl rfl rfl rfl) (pmk_made T.x_BadRow C_init (hr.mono (by decide)) (passes_call (takes_of rfl rfl rfl rfl) fun _ _ _ _ z => z.elim) (by rfl) (vv 2 (pv 2))))))
        vs_nil)
      (vs_cons (v_sfldR T.k_Machine.cl T.n_Machine__thing (ps_fld (vv 0 (pv 0)) (v_cb up_tuple (pe_callTy call_tuple_of (by rfl) T.n.n_tuple (by decide +kernel) (va_cons (vv 1 (pv 1)) va_nil))) rfl))
      (vs_cons (v_sfldR T.k_Machine.cl T.n_Machine__row (ps_fld (vv 0 (pv 0)) (v_cb up_tuple (pe_callTy call_tuple_of (by rfl) T.n.n_tuple (by decide +kernel) (va_cons (vv 2 (pv 2)) va_nil))) rfl))
      (vs_cons (v_sfldP T.k_Machine.cl T.n_Machine__program (ps_fld (vv 0 (pv 0)) (v_make le (pe_makeC C_Program (hr.mono (by decide)) (by rfl) (passes_call (takes_of rfl rfl rfl rfl) fun _ _ _ _ z => z) (va_cons (v_fld T.k_Machine.cl T.n_Machine__thing (vv 0 (pv 0))) va_nil))) rfl))
      (vs_cons (v_sfldR T.k_Machine.cl T.n_Machine__at (ps_fld (vv 0 (pv 0)) v_int rfl))
      (vs_cons (v_sfldR T.k_Machine.cl T.n_Machine__stand (ps_fld (vv 0 (pv 0)) (v_fld T.k_Program.cl T.n_Program_start (v_fldP T.k_Machine.cl T.n_Machine__program (vv 0 (pv 0)))) rfl))
      (vs_cons (v_sfldR T.k_Machine.cl T.n_Machine__over (ps_fld (vv 0 (pv 0)) v_bl rfl))
      (vs_cons (v_sfldP T.k_Machine.cl T.n_Machine__written (ps_fld (vv 0 (pv 0)) (v_lst va_nil) rfl))
      (vs_one (v_sfldP T.k_Machine.cl T.n_Machine__past (ps_fld (vv 0 (pv 0)) (v_lst va_nil) rfl)))))))))))), ?_⟩)
  · unfold sdInitM at h
    obtain ⟨k, t, r, rfl, _⟩ := h
    rfl
  unfold sdInitM at h
  obtain ⟨k, t, r, rfl, pt, pr, ek, q1, q2, q3⟩ := h
  walk_at "go"
  have kl := (List.getElem?_eq_some_iff.mp ek).1
  cases ct : dThing (py t) with
  | false => exact ifT rfl ⟨_, rfl, q1 ct⟩
  | true =>
    refine ifF rfl ?_
    walk_at "go"
    cases cr : dRow (py r) with
    | false => exact ifT rfl ⟨_, rfl, q2 ct cr⟩
    | true =>
      refine ifF rfl ?_
      obtain ⟨f, n, bs, row, b, c, rfl, rfl, hf, hn, hs, hb, hrs, hrl, q⟩ := q3 ct cr
      have pk1 : PkS B.S (.dat (sq b ((thg f n bs).map D.int))) ((thg f n bs).map D.int) := by cases b <;> first | exact .inr rfl | exact .inl rfl
      have pk2 : ∀ S, PkS S (.dat (sq c (row.map D.int))) (row.map D.int) := fun S => by cases c <;> first | exact .inr rfl | exact .inl rfl
      walk_at "go"
      refine ⟨pk2 _, ?_⟩
      walk_at "go"
      simp only [Va.m1, Va.m2, re, List.set_set]
      refine ⟨by decide, ?_⟩
      have e1 : (B.S.set k (some (Ob.ins c_Machine ["_thing", "_row"] [.tup ((thg f n bs).map D.int), .tup (row.map D.int)])))[k]? = some (some (Ob.ins c_Machine ["_thing", "_row"] [.tup ((thg f n bs).map D.int), .tup (row.map D.int)])) := set_get ek
      have l1 : (B.S.set k (some (Ob.ins c_Machine ["_thing", "_row"] [.tup ((thg f n bs).map D.int), .tup (row.map D.int)]))).length = B.S.length := List.length_set
      have k1 : ∀ i, i ≠ k → (B.S.set k (some (Ob.ins c_Machine ["_thing", "_row"] [.tup ((thg f n bs).map D.int), .tup (row.map D.int)])))[i]? = B.S[i]? := fun i h => List.getElem?_set_ne (Ne.symm h)
      generalize B.S.set k (some (Ob.ins c_Machine ["_thing", "_row"] [.tup ((thg f n bs).map D.int), .tup (row.map D.int)])) = S1 at e1 l1 k1 ⊢
      walk_at "go"
      intro S2 jT aT hj kp ln ekP ejT
      have jl := (List.getElem?_eq_some_iff.mp ejT).1
      have hj : S1.length < jT := by rw [List.length_append] at hj; simp at hj; omega
      have ln : S1.length < S2.length := by rw [List.length_append] at ln; simp at ln; omega
      have ek2 := (kp k (by rw [List.length_append]; omega) (by omega)).trans (get_push e1)
      refine ⟨rfl, ?_⟩
      walk_at "go"
      intro aP
      simp only [Va.m3, re]
      have e3 := set_get (y := some (Ob.ins c_Machine ["_thing", "_row", "_program"] [.tup ((thg f n bs).map D.int), .tup (row.map D.int), .con (.ref aP)])) (get_set (y := some (Ob.pin aP (Ob.ins c_Program progNs (progDs bs aT)))) ek2 (show S1.length ≠ k by omega))
      have p3 := get_set (y := some (Ob.ins c_Machine ["_thing", "_row", "_program"] [.tup ((thg f n bs).map D.int), .tup (row.map D.int), .con (.ref aP)])) (set_get (y := some (Ob.pin aP (Ob.ins c_Program progNs (progDs bs aT)))) ekP) (show k ≠ S1.length by omega)
      have t3 := get_set (y := some (Ob.ins c_Machine ["_thing", "_row", "_program"] [.tup ((thg f n bs).map D.int), .tup (row.map D.int), .con (.ref aP)])) (get_set (y := some (Ob.pin aP (Ob.ins c_Program progNs (progDs bs aT)))) ejT (show S1.length ≠ jT by omega)) (show k ≠ jT by omega)
      have l3 : ((S2.set S1.length (some (Ob.pin aP (Ob.ins c_Program progNs (progDs bs aT))))).set k (some (Ob.ins c_Machine ["_thing", "_row", "_program"] [.tup ((thg f n bs).map D.int), .tup (row.map D.int), .con (.ref aP)]))).length = S2.length := by rw [List.length_set, List.length_set]
      have k3 : ∀ i, i < B.S.length → i ≠ k → ((S2.set S1.length (some (Ob.pin aP (Ob.ins c_Program progNs (progDs bs aT))))).set k (some (Ob.ins c_Machine ["_thing", "_row", "_program"] [.tup ((thg f n bs).map D.int), .tup (row.map D.int), .con (.ref aP)])))[i]? = B.S[i]? := fun i h1 h2 => by
        rw [List.getElem?_set_ne (Ne.symm h2), List.getElem?_set_ne (by omega), kp i (by rw [List.length_append]; omega) (by omega), List.getElem?_append_left (by omega), k1 i h2]
      generalize (S2.set S1.length (some (Ob.pin aP (Ob.ins c_Program progNs (progDs bs aT))))).set k (some (Ob.ins c_Machine ["_thing", "_row", "_program"] [.tup ((thg f n bs).map D.int), .tup (row.map D.int), .con (.ref aP)])) = S3 at e3 p3 t3 l3 k3 ⊢
      walk_at "go"
      simp only [Va.m4, Va.m5, re, List.set_set]
      refine ⟨by decide, ?_⟩
      walk_at "go"
      simp only [Va.m6, re, List.set_set]
      refine ⟨by decide, ?_⟩
      intro aW
      simp only [Va.m7, re, List.set_set]
      walk_at "go"
      intro aL
      simp only [Va.m8, re, List.set_set]
      refine q _ ⟨k, S1.length, jT, _, _⟩ rfl ?_ ?_ ?_ (fun i hi hne => ?_) ⟨aP, aT, aW, aL, ⟨?_, ?_, ?_, ?_, (show _ = some (some (Ob.pin aW (.lst []))) from by walk_at "lf"), (show _ = some (some (Ob.pin aL (.lst []))) from by walk_at "lf")⟩⟩
      · simp only [List.length_set, List.length_append, List.length_cons, List.length_nil]
        omega
      · simp only [List.length_set, List.length_append, List.length_cons, List.length_nil]
        omega
      · simp only [List.length_set, List.length_append, List.length_cons, List.length_nil]
        omega
      · rw [List.getElem?_set_ne (Ne.symm hne), List.getElem?_set_ne (by simp only [List.length_set, List.length_append, List.length_cons, List.length_nil]; omega), List.getElem?_append_left (by simp only [List.length_set, List.length_append, List.length_cons, List.length_nil]; omega), List.getElem?_set_ne (Ne.symm hne), List.getElem?_set_ne (by simp only [List.length_set, List.length_append, List.length_cons, List.length_nil]; omega), List.getElem?_append_left (by simp only [List.length_set, List.length_append, List.length_cons, List.length_nil]; omega), List.getElem?_set_ne (Ne.symm hne), k3 i hi hne]
      · simp only [List.length_set, List.length_append, List.length_cons, List.length_nil]
        omega
      · show _ = some (some (Ob.ins c_Machine machNs [.tup ((thg f n bs).map D.int), .tup (row.map D.int), .con (.ref aP), .int 0, .int (bs.headD 0), .bl false, .con (.ref aW), .con (.ref aL)]))
        walk_at "lf"
      · show (_ : Own)[S1.length]? = _
        walk_at "lf"
      · show (_ : Own)[jT]? = _
        walk_at "lf"

theorem ok_Machine_row (T : Tx K mg fI fI_TooLong fI_Finished fI_NothingDone c_MadeError c_BadRow c_BadThing c_BadForm c_BadSign c_TooLong c_Finished c_NothingDone c_Rules c_Program c_Machine) {f : Addr} {fd : FuncData} (F : Fun K "row" "Machine.row" s_Machine_row f fd) : FnOk P w K mg base (L2.CX P w) 1 f fd ["self"] (lift (sdFld c_Machine "_row")) := by
  refine fn_vN F sc_Machine_row (fun ws S Q E h => ?_) (fun cdv A outer s B ws Q Ed E hr le h => ⟨_,
      (vs_one (v_ret (v_fld T.k_Machine.cl T.n_Machine__row (vv 0 (pv 0))))), ?_⟩)
  · obtain ⟨w, ns, ds, d, rfl, _⟩ := h
    rfl
  obtain ⟨w, ns, ds, d, rfl, pk, ef, q⟩ := h
  exact ⟨_, rfl, ns, ds, d, pk, ef, q⟩

theorem ok_run (T : Tx K mg fI fI_TooLong fI_Finished fI_NothingDone c_MadeError c_BadRow c_BadThing c_BadForm c_BadSign c_TooLong c_Finished c_NothingDone c_Rules c_Program c_Machine) (Df : Dx K mg "run" s_run ["thing", "row"]) (C_Machine : PrC P w K mg base 10 "Machine" c_Machine ["self", "thing", "row"] (sdInitM c_Machine c_Program c_BadThing c_BadRow)) (M_Machine_go : MetF P w K mg base 10 c_Machine "go" ["self"] (sdGo c_Machine c_Program)) : Fd.Pr P w K mg base 12 "run" ["thing", "row"] (lift (sdRun c_BadThing c_BadRow)) := by
  refine Va.Dx.prV Df sc_run (fun ws S Q E h => ?_) (fun f cdv A outer s B ws Q Ed E hr le h => ⟨_,
      (vs_one (v_ret (v_meth0 le (pe_methM0 M_Machine_go T.k_Machine.cl (hr.mono (by decide)) (passes_call (takes_of rfl rfl rfl rfl) fun _ _ _ _ z => z) (v_make le (pe_makeC C_Machine (hr.mono (by decide)) (by rfl) (passes_call (takes_of rfl rfl rfl rfl) fun _ _ _ _ z => z) (va_cons (vv 0 (pv 0)) (va_cons (vv 1 (pv 1)) va_nil)))))))), ?_⟩)
  · unfold sdRun at h
    obtain ⟨t, r, rfl, _⟩ := h
    rfl
  unfold sdRun at h
  obtain ⟨t, r, rfl, pt, pr, q1, q2, q3⟩ := h
  walk_at "go"
  show sdInitM c_Machine c_Program c_BadThing c_BadRow [.own B.S.length, .dat t, .dat r] (B.S ++ [some (Ob.ins c_Machine [] [])]) _ _
  unfold sdInitM
  refine ⟨B.S.length, t, r, rfl, pt, pr, push_get, fun e => ?_, fun e1 e2 => ?_, fun e1 e2 => ?_⟩
  · show Ed c_BadThing t ((B.S ++ [_]).take B.S.length)
    rw [List.take_left]
    exact q1 e
  · show Ed c_BadRow r ((B.S ++ [_]).take B.S.length)
    rw [List.take_left]
    exact q2 e1 e2
  · obtain ⟨f, n, bs, row, out, b, c, rfl, rfl, hf, hn, hs, hb, hrs, hrl, ho, q⟩ := q3 e1 e2
    refine ⟨f, n, bs, row, b, c, rfl, rfl, hf, hn, hs, hb, hrs, hrl, ?_⟩
    intro S' I hk hw hl ln kp M
    obtain ⟨aP, aT, aW, aL, M⟩ := M
    have ek := M.ek
    rw [hk] at ek
    refine ⟨rfl, machNs, _, pkI ek rfl, by decide +kernel, ?_⟩
    show sdGo c_Machine c_Program [.own B.S.length] S' _ _
    unfold sdGo
    have hr := runM_run (us := rulesB bs) (bs := bs) (row := row) _ (Nat.le_refl _) (MOk.ms0 hs hb hrl) rfl
    obtain ⟨m', e, eo⟩ := Option.map_eq_some_iff.mp (hr.trans ho)
    refine ⟨I, thg f n bs, bs, row, ms0 bs, m', by rw [hk], ⟨aP, aT, aW, aL, M⟩, MOk.ms0 hs hb hrl, e, ?_⟩
    intro S2 fr M2
    rw [eo]
    show Q _ (S2.take B.S.length)
    rw [take_same fun i hi => by
      rw [List.length_append] at hw hl ln
      simp at hw hl ln
      rw [fr.kp i (by omega) (by omega) (by omega) (by omega), kp i (by rw [List.length_append]; omega) (by omega), List.getElem?_append_left hi]]
    exact q

theorem ok_item_text (T : Tx K mg fI fI_TooLong fI_Finished fI_NothingDone c_MadeError c_BadRow c_BadThing c_BadForm c_BadSign c_TooLong c_Finished c_NothingDone c_Rules c_Program c_Machine) (Df : Dx K mg "item_text" s_item_text ["item"]) : Fd.Pr P w K mg base 1 "item_text" ["item"] (lift sdItemT) := by
  refine Va.Dx.prV Df sc_item_text (fun ws S Q E h => ?_) (fun f cdv A outer s B ws Q Ed E hr le h => ⟨_,
      (vs_cut (v_set _ (ps_set (i := 1) sc_item_text.nd rfl (Or.inl rfl) (v_ifExp (vt_cmp o_eq (v_ix (vv 0 (pv 0)) v_int) v_str) (v_lst (va_cons v_str (va_star (v_ix (vv 0 (pv 0)) v_int) va_nil))) (vv 0 (pv 0)))))
      (vs_one (v_ret (v_m1 up_join (pe_join v_str (v_lc (pe_lc (own := [("part", 2)]) (g := gName 2) (tt := tYes) rfl sc_item_text.nd (pi_seq (vv 1 (pv 1))) (blkOk_by (N := ["item", "parts", "part"]) (sc := defScope s_item_text) (by decide +kernel)) (fun _ _ _ _ _ => pg_name (i := 2) sc_item_text.nd rfl (Or.inl rfl)) (fun _ _ _ _ _ => pts_nil) (fun _ _ _ _ _ => (v_cb up_strA (pe_callTy call_strA (by rfl) T.n.n_str (by decide +kernel) (va_cons (vv 2 (pv 2)) va_nil))))))))))), ?_⟩)
  · obtain ⟨i, rfl, _⟩ := h
    rfl
  obtain ⟨i, rfl, hi, q⟩ := h
  refine ⟨fun δ => ∃ (w : W) (S : Own), δ = ⟨[some (.dat (Itm.v i)), some w, none], S⟩ ∧ PkS S w (itP i) ∧ Gp B.S S ∧ ∀ k, w = .own k → B.S.length ≤ k, ?_, ?_⟩
  · cases i with
    | put xs =>
      refine ⟨_, rfl, _, rfl, .inl ⟨_, _, .inr rfl, atI_nat (j := 0) rfl, _, _, rfl, rfl, rfl, _, rfl, iteT ?_⟩⟩
      have hx : xs.length ≤ 99 := hi.2
      refine ⟨_, rfl, _, rfl, .inl ⟨_, _, .inr rfl, atI_nat (j := 1) rfl, _, .inr rfl, ?_, ?_⟩⟩
      · refine Nat.le_trans (m := 1000) ?_ (by decide)
        simp
        omega
      · refine toDs_dats ?_
        exact ⟨_, _, rfl, .inl ⟨_, push_get, rfl⟩, Gp.refl.push _, fun k z => by cases z; exact Nat.le_refl _⟩
    | plus k =>
      refine ⟨_, rfl, _, rfl, .inl ⟨_, _, .inr rfl, atI_nat (j := 0) rfl, _, _, rfl, rfl, rfl, _, rfl, iteF ?_⟩⟩
      exact ⟨_, rfl, _, _, rfl, .inr rfl, Gp.refl, fun k z => nomatch z⟩
    | own j k =>
      refine ⟨_, rfl, _, rfl, .inl ⟨_, _, .inr rfl, atI_nat (j := 0) rfl, _, _, rfl, rfl, rfl, _, rfl, iteF ?_⟩⟩
      exact ⟨_, rfl, _, _, rfl, .inr rfl, Gp.refl, fun k z => nomatch z⟩
  rintro _ ⟨w, S, rfl, pk, g, hw⟩
  have fin : ∀ (a b c : Option W) (S : Own) (d : D), Gp B.S S → (d = .lst (itP i) ∨ d = .tup (itP i)) → ∃ ds, (d = .lst ds ∨ d = .tup ds) ∧ ∃ Pv : Nat → List D → Own → Prop, Pv 0 [] (S ++ [some (.lst [])]) ∧ (∀ j x acc S1, ds[j]? = some x → Pv j acc S1 → S1[S.length]? = some (some (.lst acc)) → dCB rdStrA (dCons (dVar 2) dNil) ⟨([a, b, c].set 2 none).set 2 (some (.dat x)), S1⟩ fun u δ3 => toD u δ3 fun y δ4 => δ4.own[S.length]? = some (some (.lst acc)) ∧ acc.length < sizeLine ∧ Pv (j + 1) (acc ++ [y]) (δ4.own.set S.length (some (.lst (acc ++ [y]))))) ∧ ∀ acc S1, Pv ds.length acc S1 → S1[S.length]? = some (some (.lst acc)) → rdJoin (.dat (.str " ")) [.own S.length] ⟨[a, b, c], S1⟩ (fun u δ => Rt B.S.length Q u δ.own) := fun a b c S d g hd => by
    have hl := itP_len hi
    have hl2 := itPS_len i
    refine ⟨itP i, hd, fun j acc S1 => acc = ((itPS i).take j).map D.str ∧ Gp B.S S1, ⟨rfl, g.push _⟩, ?_, ?_⟩
    · rintro j x _ S1 hx ⟨rfl, g1⟩ e1
      obtain ⟨t, et, ht⟩ := itP_get hi hx
      have hz : (((itPS i).take j).map D.str).length < sizeLine := Nat.lt_of_le_of_lt (m := 1000) (by rw [List.length_map, List.length_take]; omega) (by decide)
      rcases ht with ⟨k, rfl, hk, rfl⟩ | rfl
      · exact ⟨_, rfl, .inl ⟨k, rfl, log_sg hk, e1, hz, map_take_snoc (f := D.str) et, g1.set g.le _⟩⟩
      · exact ⟨_, rfl, .inr ⟨t, rfl, e1, hz, map_take_snoc (f := D.str) et, g1.set g.le _⟩⟩
    · rintro _ S1 ⟨rfl, g1⟩ e1
      rw [← hl2, List.take_length] at e1
      refine ⟨_, _, itPS i, rfl, rfl, .inl ⟨_, e1, rfl⟩, ?_, ?_⟩
      · have y := itPS_sum hi
        have o : (" " : Str).length = 1 := by decide
        rw [o]
        omega
      · rw [← itS_eq]
        exact rt_pd g1 q
  refine ⟨⟨_, rfl⟩, _, rfl, ?_⟩
  cases w with
  | dat d =>
    refine fin _ _ _ S d g ?_
    rcases pk with p | p
    · exact .inl p.symm
    · exact .inr p.symm
  | own k =>
    rcases pk with ⟨ob, e, p⟩ | ⟨ob, e, p⟩
    · exact ⟨ob, _, e, rfl, fin _ _ _ _ _ (g.set (hw k rfl) none) (.inl p.symm)⟩
    · exact ⟨ob, _, e, rfl, fin _ _ _ _ _ (g.set (hw k rfl) none) (.inr p.symm)⟩

theorem ok_items_text (T : Tx K mg fI fI_TooLong fI_Finished fI_NothingDone c_MadeError c_BadRow c_BadThing c_BadForm c_BadSign c_TooLong c_Finished c_NothingDone c_Rules c_Program c_Machine) (Df : Dx K mg "items_text" s_items_text ["items"]) (C_item_text : Fd.Pr P w K mg base 1 "item_text" ["item"] (lift sdItemT)) : Fd.Pr P w K mg base 2 "items_text" ["items"] (lift sdItemsT) := by
  refine Va.Dx.prV Df sc_items_text (fun ws S Q E h => ?_) (fun f cdv A outer s B ws Q Ed E hr le h => ⟨_,
      (vs_cons (v_if (vt_not (vt_truth (vv 0 (pv 0)) (by intro _; rfl)))
        (vs_one (v_ret v_str))
        vs_nil)
      (vs_one (v_ret (v_m1 up_join (pe_join v_str (v_lc (pe_lc (own := [("item", 1)]) (g := gName 1) (tt := tYes) rfl sc_items_text.nd (pi_seq (vv 0 (pv 0))) (blkOk_by (N := ["items", "item"]) (sc := defScope s_items_text) (by decide +kernel)) (fun _ _ _ _ _ => pg_name (i := 1) sc_items_text.nd rfl (Or.inl rfl)) (fun _ _ _ _ _ => pts_nil) (fun _ _ _ _ _ => (v_call le0 (pe_callP C_item_text (hr.mono (by decide)) (by rfl) (passes_call takes0 fun _ _ _ _ z => z) (va_cons (vv 1 (pv 1)) va_nil))))))))))), ?_⟩)
  · obtain ⟨is, rfl, _⟩ := h
    rfl
  obtain ⟨is, rfl, hi, hl, q⟩ := h
  refine ⟨_, rfl, _, .inl ⟨itsV is, .inr rfl, rfl⟩, ?_⟩
  cases is with
  | nil => exact iteT (rt_pd Gp.refl q)
  | cons i0 r0 =>
    refine iteF ?_
    generalize hc : (i0 :: r0) = is at hi hl q
    have q' : Q (.dat (.str (Txt.join ", " (is.map itS)))) B.S := by
      rw [show itsS is = Txt.join ", " (is.map itS) from by rw [← hc]; rfl] at q
      exact q
    refine ⟨⟨_, rfl⟩, _, rfl, itsV is, .inr rfl, fun j acc S1 => acc = ((is.map itS).take j).map D.str ∧ Gp B.S S1, ⟨rfl, Gp.refl.push _⟩, ?_, ?_⟩
    · rintro j x _ S1 hx ⟨rfl, g1⟩ e1
      obtain ⟨it, ei, rfl⟩ := map_get hx
      have hz : (((is.map itS).take j).map D.str).length < sizeLine := Nat.lt_of_le_of_lt (m := 1000) (by rw [List.length_map, List.length_take, List.length_map]; omega) (by decide)
      have et : (is.map itS)[j]? = some (itS it) := by rw [List.getElem?_map, ei]; rfl
      exact ⟨_, rfl, it, rfl, hi it (List.mem_of_getElem? ei), e1, hz, map_take_snoc (f := D.str) et, g1.set (Nat.le_refl _) _⟩
    · rintro _ S1 ⟨rfl, g1⟩ e1
      rw [show (itsV is).length = (is.map itS).length from by unfold itsV; rw [List.length_map, List.length_map], List.take_length] at e1
      refine ⟨_, _, is.map itS, rfl, rfl, .inl ⟨_, e1, rfl⟩, ?_, rt_pd g1 q'⟩
      have o : (", " : Str).length = 2 := by decide
      have z : ((is.map itS).map (·.length)).sum ≤ ((is.map itS).map (·.length)).length * 500 := sum_le fun x hx => by
        obtain ⟨t, ht, rfl⟩ := List.mem_map.mp hx
        obtain ⟨i, hi', rfl⟩ := List.mem_map.mp ht
        exact itS_len (hi i hi')
      rw [o]
      simp only [List.length_map] at z ⊢
      omega

theorem ok_rule_text (T : Tx K mg fI fI_TooLong fI_Finished fI_NothingDone c_MadeError c_BadRow c_BadThing c_BadForm c_BadSign c_TooLong c_Finished c_NothingDone c_Rules c_Program c_Machine) (Df : Dx K mg "rule_text" s_rule_text ["rule"]) (C_items_text : Fd.Pr P w K mg base 2 "items_text" ["items"] (lift sdItemsT)) : Fd.Pr P w K mg base 3 "rule_text" ["rule"] (lift sdRuleT) := by
  refine Va.Dx.prV Df sc_rule_text (fun ws S Q E h => ?_) (fun f cdv A outer s B ws Q Ed E hr le h => ⟨_,
      (vs_cons (v_asg (ps_asg (vv 0 (pv 0)) (vg_tup (pg_tup (by rfl) (vgs_cons (vg_name (pg_name (i := 1) sc_rule_text.nd rfl (Or.inl rfl))) (vgs_cons (vg_name (pg_name (i := 2) sc_rule_text.nd rfl (Or.inl rfl))) (vgs_cons (vg_name (pg_name (i := 3) sc_rule_text.nd rfl (Or.inl rfl))) (vgs_cons (vg_name (pg_name (i := 4) sc_rule_text.nd rfl (Or.inl rfl))) vgs_nil))))))))
      (vs_cut (v_set _ (ps_set (i := 5) sc_rule_text.nd rfl (Or.inl rfl) (v_joined (VJ.cons (v_fmt (vv 1 (pv 1))) (VJ.cons v_str (VJ.cons (v_fmt (vv 2 (pv 2))) (VJ.cons v_str (VJ.cons (v_fmt (v_call le (pe_callP C_items_text (hr.mono (by decide)) (by rfl) (passes_call (takes_of rfl rfl rfl rfl) fun _ _ _ _ z => z) (va_cons (vv 3 (pv 3)) va_nil)))) VJ.nil))))))))
      (vs_cons (v_if (vt_cmp o_isN (vv 4 (pv 4)) v_non)
        (vs_one (v_ret (vv 5 (pv 5))))
        vs_nil)
      (vs_one (v_ret (v_joined (VJ.cons (v_fmt (vv 5 (pv 5))) (VJ.cons v_str (VJ.cons (v_fmt (vv 4 (pv 4))) VJ.nil))))))))), ?_⟩)
  · obtain ⟨r, rfl, _⟩ := h
    rfl
  obtain ⟨r, rfl, hr, q⟩ := h
  have hn := hr.nxt
  obtain ⟨st, wd, its, nx⟩ := r
  have a1 := sgS_len (show OkS st from hr.st)
  have a2 : (wdS wd).length ≤ 5 := wdS_len hr.wd
  have a3 : (itsS its).length ≤ 60000 := itsS_len hr.its hr.few
  have o1 : (" " : Str).length = 1 := by decide
  have o2 : (": " : Str).length = 2 := by decide
  have o3 : (" > " : Str).length = 3 := by decide
  have e0 : (Str.empty).length = 0 := rfl
  have lw : (sgS st ++ " " ++ wdS wd ++ ": " ++ itsS its).length ≤ 60010 := by
    rw [strLen_append, strLen_append, strLen_append, strLen_append]
    omega
  refine ⟨_, rfl, _, rfl, rfl, _, _, rfl, _, _, rfl, _, _, rfl, _, _, rfl, rfl, ?_⟩
  refine ⟨fun δ => δ = ⟨[some (.dat (Ru.v ⟨st, wd, its, nx⟩)), some (.dat (.int st)), some (.dat (Wd.v wd)), some (.dat (.tup (itsV its))), some (.dat (nextV nx)), some (.dat (.str (sgS st ++ " " ++ wdS wd ++ ": " ++ itsS its)))], B.S⟩, ?_, ?_⟩
  · refine ⟨_, rfl, .inr ⟨st, rfl, log_sg hr.st, sgS st, rfl, sl5 (by rw [strLen_append]; omega), ?_⟩⟩
    rw [empty_app]
    refine ⟨_, rfl, sl5 (by rw [strLen_append]; omega), ?_⟩
    have fin : dJs [dC (.str ": "), dFmt (dCall sdItemsT (fun C d S' => Ed C d (List.take (List.length B.S) S')) (dCons (dVar 3) dNil))] (sgS st ++ " " ++ wdS wd) ⟨[some (.dat (Ru.v ⟨st, wd, its, nx⟩)), some (.dat (.int st)), some (.dat (Wd.v wd)), some (.dat (.tup (itsV its))), some (.dat (nextV nx)), none], B.S⟩ (fun out δ1 => (⟨δ1.slots.set 5 (some (.dat (.str out))), δ1.own⟩ : DS) = ⟨[some (.dat (Ru.v ⟨st, wd, its, nx⟩)), some (.dat (.int st)), some (.dat (Wd.v wd)), some (.dat (.tup (itsV its))), some (.dat (nextV nx)), some (.dat (.str (sgS st ++ " " ++ wdS wd ++ ": " ++ itsS its)))], B.S⟩) := by
      refine ⟨_, rfl, sl5 (by rw [strLen_append, strLen_append, strLen_append]; omega), ?_⟩
      exact ⟨_, rfl, its, rfl, hr.its, hr.few, .inl ⟨_, rfl, sl5 (by omega), _, rfl, sl5 (by omega), rfl⟩⟩
    have hw := hr.wd
    cases wd with
    | sign s => exact ⟨_, rfl, .inr ⟨s, rfl, log_sg hw, _, rfl, sl5 (by rw [strLen_append, strLen_append]; have := a2; show _ + (wdS (.sign s)).length ≤ _; omega), fin⟩⟩
    | other => exact ⟨_, rfl, .inl ⟨_, rfl, by decide, _, rfl, sl5 (by rw [strLen_append, strLen_append]; show _ + (wdS .other).length ≤ _; omega), fin⟩⟩
    | fin => exact ⟨_, rfl, .inl ⟨_, rfl, by decide, _, rfl, sl5 (by rw [strLen_append, strLen_append]; show _ + (wdS .fin).length ≤ _; omega), fin⟩⟩
  rintro _ rfl
  cases nx with
  | none => exact ⟨_, rfl, rfl, _, rfl, _, rfl, iteT ⟨_, rfl, rt_pd Gp.refl q⟩⟩
  | some n =>
    have a4 := sgS_len (show OkS n from hn)
    refine ⟨_, rfl, rfl, _, rfl, _, rfl, iteF ?_⟩
    refine ⟨_, rfl, .inl ⟨_, rfl, sl5 (by omega), _, rfl, sl5 (by rw [empty_app]; omega), ?_⟩⟩
    rw [empty_app]
    refine ⟨_, rfl, sl5 (by rw [strLen_append]; omega), ?_⟩
    exact ⟨_, rfl, .inr ⟨n, rfl, log_sg hn, sgS n, rfl, sl5 (by rw [strLen_append, strLen_append]; omega), rt_pd Gp.refl q⟩⟩

theorem ok_write_body (T : Tx K mg fI fI_TooLong fI_Finished fI_NothingDone c_MadeError c_BadRow c_BadThing c_BadForm c_BadSign c_TooLong c_Finished c_NothingDone c_Rules c_Program c_Machine) (Df : Dx K mg "write_body" s_write_body ["body"]) (C_Rules : PrC P w K mg base 6 "Rules" c_Rules ["self", "body"] (sdInitRE c_Rules c_BadRow)) (C_rule_text : Fd.Pr P w K mg base 3 "rule_text" ["rule"] (lift sdRuleT)) : Fd.Pr P w K mg base 8 "write_body" ["body"] (lift (sdWriteBE c_BadRow)) := by
  refine Va.Dx.prV Df sc_write_body (fun ws S Q E h => ?_) (fun f cdv A outer s B ws Q Ed E hr le h => ⟨_,
      (vs_cons (v_set _ (ps_set (i := 1) sc_write_body.nd rfl (Or.inl rfl) (v_make le (pe_makeC C_Rules (hr.mono (by decide)) (by rfl) (passes_call (takes_of rfl rfl rfl rfl) fun _ _ _ _ z => z) (va_cons (vv 0 (pv 0)) va_nil)))))
      (vs_one (v_ret (v_m1 up_join (pe_join v_str (v_op o_cat (v_lst (va_cons (v_joined (VJ.cons v_str (VJ.cons (v_fmt (v_fld T.k_Rules.cl T.n_Rules_start (vv 1 (pv 1)))) VJ.nil))) va_nil)) (v_lc (pe_lc (own := [("rule", 2)]) (g := gName 2) (tt := tYes) rfl sc_write_body.nd (pi_seq (v_fld T.k_Rules.cl T.n_Rules_rules (vv 1 (pv 1)))) (blkOk_by (N := ["body", "told", "rule"]) (sc := defScope s_write_body) (by decide +kernel)) (fun _ _ _ _ _ => pg_name (i := 2) sc_write_body.nd rfl (Or.inl rfl)) (fun _ _ _ _ _ => pts_nil) (fun _ _ _ _ _ => (v_call le0 (pe_callP C_rule_text (hr.mono (by decide)) (by rfl) (passes_call takes0 fun _ _ _ _ z => z) (va_cons (vv 2 (pv 2)) va_nil)))))))))))), ?_⟩)
  · rcases h with h | h
    · obtain ⟨b, bs, rfl, _⟩ := h
      rfl
    · obtain ⟨d, rfl, _⟩ := h
      rfl
  rcases h with h | h
  rotate_left
  · obtain ⟨d, rfl, pd, hd, e⟩ := h
    refine ⟨_, rfl, .inr ⟨_, d, rfl, pd, hd, ?_⟩⟩
    show Ed c_BadRow d ((B.S ++ [_]).take B.S.length)
    rw [List.take_left]
    exact e
  obtain ⟨b, bs, rfl, hB, hl, q⟩ := h
  have hs := head_ok hB
  obtain ⟨hrs, hrl, _⟩ := rulesOf_ok (n := bs.length) (r := bs.drop 1) (Sgn.suf hB (List.drop_suffix 1 bs))
  refine ⟨_, rfl, .inl ⟨_, _, bs, rfl, push_get, sq_pks, hB, by omega, (fun z => nomatch z), rfl, ?_⟩⟩
  have gS : fldD "start" bodyNs (bodyDs bs) = some (.int (bs.headD 0)) := rfl
  have gR : fldD "rules" bodyNs (bodyDs bs) = some (.tup (rusV (rulesOf bs.length (bs.drop 1)).1)) := rfl
  have eT := made1 (S := B.S) (x := some (Ob.ins c_Rules [] [])) (y := some (Ob.ins c_Rules bodyNs (bodyDs bs)))
  generalize (rulesOf bs.length (bs.drop 1)).1 = rs at hrs hrl q gR
  generalize bs.headD 0 = s at hs q gS
  have hg : Gp B.S ((B.S ++ [some (Ob.ins c_Rules [] [])]).set B.S.length (some (Ob.ins c_Rules bodyNs (bodyDs bs)))) := (Gp.refl.push _).set (Nat.le_refl _) _
  generalize bodyDs bs = BD at gS gR eT hg
  generalize (B.S ++ [some (Ob.ins c_Rules [] [])]).set B.S.length (some (Ob.ins c_Rules bodyNs BD)) = S0 at eT hg ⊢
  have a1 := sgS_len hs
  have o0 : ("start " : Str).length = 6 := by decide
  have o1 : ("\n" : Str).length = 1 := by decide
  have hsum := rusS_sum hrs
  have hrl1 := rusI_len1 (rs := rs)
  have hdl : (bs.drop 1).length ≤ 1000000 := by rw [List.length_drop]; omega
  have hl0 : B.S.length ≤ S0.length := by
    have z := (List.getElem?_eq_some_iff.mp eT).1
    omega
  refine ⟨⟨_, rfl⟩, _, rfl, sl5 (by rw [empty_app]; omega), ?_⟩
  rw [empty_app]
  refine ⟨_, rfl, _, _, _, ⟨_, eT, rfl⟩, gS, .inr ⟨s, rfl, log_sg hs, sgS s, rfl, sl5 (by rw [strLen_append]; omega), ?_⟩⟩
  refine ⟨by show 1 ≤ sizeLine; decide, ?_⟩
  refine ⟨_, rfl, _, _, _, ⟨_, get_push eT, rfl⟩, gR, rusV rs, .inr rfl, fun j acc S1 => acc = ((rs.take j).map ruS).map D.str ∧ Gp B.S S1 ∧ S1[S0.length]? = some (some (.lst [.str ("start " ++ sgS s)])), ?_, ?_, ?_⟩
  · exact ⟨rfl, (hg.push _).push _, get_push push_get⟩
  · rintro j x _ S1 hx ⟨rfl, g1, e0⟩ e1
    obtain ⟨r, er, rfl⟩ := map_get hx
    have z : (rs.take j).map ruS ++ [ruS r] = (rs.take (j + 1)).map ruS := map_take_snoc (f := ruS) er
    refine ⟨_, rfl, r, rfl, hrs r (List.mem_of_getElem? er), e1, Nat.lt_of_le_of_lt (m := 1000000) (by rw [List.length_map, List.length_map, List.length_take]; omega) (by decide), ?_, g1.set (by simp; omega) _, get_set e0 (by simp)⟩
    rw [← z, List.map_append]
    rfl
  rintro _ S1 ⟨rfl, g1, e0⟩ e1
  rw [show (rusV rs).length = rs.length from List.length_map .., List.take_length] at e1
  refine ⟨_, _, ⟨_, e0, rfl⟩, ⟨_, e1, rfl⟩, Nat.le_trans (m := 1000001) (by rw [List.length_map, List.length_map, List.length_singleton]; omega) (by decide), ?_⟩
  refine ⟨_, _, ("start " ++ sgS s) :: rs.map ruS, rfl, rfl, .inl ⟨_, push_get, rfl⟩, ?_, rt_pd (g1.push _) q⟩
  rw [List.map_cons, List.sum_cons, List.length_cons, List.length_map, strLen_append, o0, o1]
  omega

theorem ok_law_sign (T : Tx K mg fI fI_TooLong fI_Finished fI_NothingDone c_MadeError c_BadRow c_BadThing c_BadForm c_BadSign c_TooLong c_Finished c_NothingDone c_Rules c_Program c_Machine) (Df : Dx K mg "_law_sign" s_law_sign ["tape"]) (C_law_pick : Fd.Pr P w K mg base 1 "_law_pick" ["tape", "size"] (lift sdPick)) : Fd.Pr P w K mg base 2 "_law_sign" ["tape"] (lift sdSign) := by
  refine Va.Dx.prV Df sc_law_sign (fun ws S Q E h => ?_) (fun f cdv A outer s B ws Q Ed E hr le h => ⟨_,
      (vs_cons (v_set _ (ps_set (i := 1) sc_law_sign.nd rfl (Or.inl rfl) (v_call le (pe_callP C_law_pick (hr.mono (by decide)) (by rfl) (passes_call (takes_of rfl rfl rfl rfl) fun _ _ _ _ z => z) (va_cons (vv 0 (pv 0)) (va_cons v_int va_nil))))))
      (vs_cons (v_if (vt_cmp o_eq (vv 1 (pv 1)) v_int)
        (vs_one (v_ret (v_call le (pe_callP C_law_pick (hr.mono (by decide)) (by rfl) (passes_call (takes_of rfl rfl rfl rfl) fun _ _ _ _ z => z) (va_cons (vv 0 (pv 0)) (va_cons v_int va_nil))))))
        vs_nil)
      (vs_cons (v_if (vt_cmp o_eq (vv 1 (pv 1)) v_int)
        (vs_one (v_ret (v_op o_sub v_int (v_call le (pe_callP C_law_pick (hr.mono (by decide)) (by rfl) (passes_call (takes_of rfl rfl rfl rfl) fun _ _ _ _ z => z) (va_cons (vv 0 (pv 0)) (va_cons v_int va_nil)))))))
        vs_nil)
      (vs_one (v_ret (v_call le (pe_callP C_law_pick (hr.mono (by decide)) (by rfl) (passes_call (takes_of rfl rfl rfl rfl) fun _ _ _ _ z => z) (va_cons (vv 0 (pv 0)) (va_cons v_int va_nil))))))))), ?_⟩)
  · obtain ⟨t, rfl, _⟩ := h
    rfl
  obtain ⟨t, rfl, ht, q⟩ := h
  refine ⟨_, rfl, t, 4, rfl, by decide, by decide, ht, fun k S1 hk g1 l1 => ?_⟩
  refine ⟨_, rfl, _, _, rfl, rfl, rfl, _, rfl, ?_⟩
  refine ite2 (fun _ => ?_) (fun _ => ?_)
  · exact ⟨_, rfl, t, 100, rfl, by decide, by decide, g1.tape, fun d S2 hd g2 l2 => rt_dat d q ht hd (g1.trans g2)⟩
  refine ⟨_, rfl, _, _, rfl, rfl, rfl, _, rfl, ?_⟩
  refine ite2 (fun _ => ?_) (fun _ => ?_)
  · exact ⟨_, rfl, t, 3, rfl, by decide, by decide, g1.tape, fun j S2 hj g2 l2 => ⟨_, _, rfl, rfl, rt_dat (99 - j) q ht ⟨by omega, by omega⟩ (g1.trans g2)⟩⟩
  · exact ⟨_, rfl, t, 5, rfl, by decide, by decide, g1.tape, fun d S2 hd g2 l2 => rt_dat d q ht ⟨hd.1, by omega⟩ (g1.trans g2)⟩

theorem ok_law_signs (T : Tx K mg fI fI_TooLong fI_Finished fI_NothingDone c_MadeError c_BadRow c_BadThing c_BadForm c_BadSign c_TooLong c_Finished c_NothingDone c_Rules c_Program c_Machine) (Df : Dx K mg "_law_signs" s_law_signs ["tape", "many"]) (C_law_sign : Fd.Pr P w K mg base 2 "_law_sign" ["tape"] (lift sdSign)) : Fd.Pr P w K mg base 3 "_law_signs" ["tape", "many"] (lift sdSigns) := by
  refine Va.Dx.prV Df sc_law_signs (fun ws S Q E h => ?_) (fun f cdv A outer s B ws Q Ed E hr le h => ⟨_,
      (vs_cons (v_set _ (ps_set (i := 2) sc_law_signs.nd rfl (Or.inl rfl) (v_lst va_nil)))
      (vs_cons (v_forR (ps_for (passes_of rfl) rfl (pi_range1 (by rfl) T.n.n_range (va_cons (vv 1 (pv 1)) va_nil)) (vg_name (pg_name (i := 3) sc_law_signs.nd rfl (Or.inl rfl)))
        (vs_one (v_expr (v_app (pe_bm PySem.F.plainAttrs_list PySem.F.slot_list_append PySem.F.type_list_append mt_append (vv 2 (pv 2)) (va_cons (v_call le (pe_callP C_law_sign (hr.mono (by decide)) (by rfl) (passes_call (takes_of rfl rfl rfl rfl) fun _ _ _ _ z => z) (va_cons (vv 0 (pv 0)) va_nil))) va_nil)))))))
      (vs_one (v_ret (vv 2 (pv 2)))))), ?_⟩)
  · obtain ⟨t, many, rfl, _⟩ := h
    rfl
  obtain ⟨t, many, rfl, m0, m1, ht, q⟩ := h
  refine ⟨Nat.zero_le _, ?_⟩
  refine ⟨_, rfl, many, rfl, by omega, by omega, fun i δ => ∃ (y : Option W) (ns : List Int), δ.slots = [some (.own t), some (.dat (.int many)), some (.own B.S.length), y] ∧ ns.length = i ∧ Sgn ns ∧ Gr t B.S δ.own ∧ δ.own[B.S.length]? = some (some (.lst (ns.map D.int))), ?_, ?_, ?_⟩
  · exact ⟨none, [], rfl, rfl, (fun z h => nomatch h), (Gr.refl ht).push _, push_get⟩
  · rintro i ⟨_, S1⟩ hi ⟨y, ns, rfl, rfl, hs, g, e⟩
    refine ⟨_, rfl, _, _, rfl, e, _, rfl, t, rfl, g.tape, fun k S2 hk g2 l2 => ?_⟩
    have e2 := g2.own ht.lt (Nat.le_refl _) e
    refine ⟨_, rfl, _, e2, Nat.lt_of_le_of_lt (m := 10000) (by rw [List.length_map]; omega) (by decide), ?_⟩
    exact ⟨_, ns ++ [k], rfl, by rw [List.length_append]; rfl, Sgn.snoc hs hk, (g.trans g2).set (Nat.le_refl _) ht.lt _, by rw [← intsV_snoc]; exact set_get e2⟩
  · rintro ⟨_, S1⟩ ⟨y, ns, rfl, hl, hs, g, e⟩
    exact ⟨_, rfl, rt_own ns q ht (Nat.le_refl _) ⟨by omega, hs⟩ e g⟩

theorem ok_law_odd (T : Tx K mg fI fI_TooLong fI_Finished fI_NothingDone c_MadeError c_BadRow c_BadThing c_BadForm c_BadSign c_TooLong c_Finished c_NothingDone c_Rules c_Program c_Machine) (Df : Dx K mg "_law_odd" s_law_odd ["tape"]) (C_law_pick : Fd.Pr P w K mg base 1 "_law_pick" ["tape", "size"] (lift sdPick)) : Fd.Pr P w K mg base 2 "_law_odd" ["tape"] (lift sdOdd12) := by
  refine Va.Dx.prV Df sc_law_odd (fun ws S Q E h => ?_) (fun f cdv A outer s B ws Q Ed E hr le h => ⟨_,
      (vs_cons (v_set _ (ps_set (i := 1) sc_law_odd.nd rfl (Or.inl rfl) (v_call le (pe_callP C_law_pick (hr.mono (by decide)) (by rfl) (passes_call (takes_of rfl rfl rfl rfl) fun _ _ _ _ z => z) (va_cons (vv 0 (pv 0)) (va_cons v_int va_nil))))))
      (vs_cons (v_if (vt_cmp o_eq (vv 1 (pv 1)) v_int)
        (vs_one (v_ret v_non))
        vs_nil)
      (vs_cons (v_if (vt_cmp o_eq (vv 1 (pv 1)) v_int)
        (vs_one (v_ret v_bl))
        vs_nil)
      (vs_cons (v_if (vt_cmp o_eq (vv 1 (pv 1)) v_int)
        (vs_one (v_ret v_str))
        vs_nil)
      (vs_cons (v_if (vt_cmp o_eq (vv 1 (pv 1)) v_int)
        (vs_one (v_ret v_dic))
        vs_nil)
      (vs_cons (v_if (vt_cmp o_eq (vv 1 (pv 1)) v_int)
        (vs_one (v_ret (v_op o_add v_int (v_call le (pe_callP C_law_pick (hr.mono (by decide)) (by rfl) (passes_call (takes_of rfl rfl rfl rfl) fun _ _ _ _ z => z) (va_cons (vv 0 (pv 0)) (va_cons v_int va_nil)))))))
        vs_nil)
      (vs_cons (v_if (vt_cmp o_eq (vv 1 (pv 1)) v_int)
        (vs_one (v_ret (v_op o_sub (v_neg v_int) (v_call le (pe_callP C_law_pick (hr.mono (by decide)) (by rfl) (passes_call (takes_of rfl rfl rfl rfl) fun _ _ _ _ z => z) (va_cons (vv 0 (pv 0)) (va_cons v_int va_nil)))))))
        vs_nil)
      (vs_cons (v_if (vt_cmp o_eq (vv 1 (pv 1)) v_int)
        (vs_one (v_ret (v_frz (v_lst (va_cons v_int (va_cons v_int va_nil))))))
        vs_nil)
      (vs_cons (v_if (vt_cmp o_eq (vv 1 (pv 1)) v_int)
        (vs_one (v_ret (v_tup (va_cons v_int (va_cons v_int va_nil)))))
        vs_nil)
      (vs_cons (v_if (vt_cmp o_eq (vv 1 (pv 1)) v_int)
        (vs_one (v_ret v_str))
        vs_nil)
      (vs_cons (v_if (vt_cmp o_eq (vv 1 (pv 1)) v_int)
        (vs_one (v_ret v_bl))
        vs_nil)
      (vs_cons (v_if (vt_cmp o_eq (vv 1 (pv 1)) v_int)
        (vs_one (v_ret (v_op o_pow v_int v_int)))
        vs_nil)
      (vs_one (v_ret (v_frz (v_lst (va_cons (v_lst (va_cons v_int va_nil)) (va_cons v_int va_nil)))))))))))))))))), ?_⟩)
  · obtain ⟨t, rfl, _⟩ := h
    rfl
  obtain ⟨t, rfl, ht, q⟩ := h
  have fin : ∀ d S', Odd12 d → Gr t B.S S' → Rt B.S.length Q (.dat d) S' := fun d S' o g => rt_dat d q ht o g
  have i1 : Sm 46 0 (.int 1) := Sm.sgn ⟨by decide, by decide⟩
  have i2 : Sm 46 0 (.int 2) := Sm.sgn ⟨by decide, by decide⟩
  have i0 : Sm 46 0 (.int 0) := Sm.sgn ⟨by decide, by decide⟩
  walk_at "go"
  intro kd S1 hk g1 l1
  walk_at "go"
  refine ite2 (fun _ => ?_) (fun _ => ?_)
  · walk_at "go"
    exact fin .non _ ⟨Sm.non.le (by decide) (by decide), by show dSign (py _) = false; rw [py]; rfl⟩ g1
  walk_at "go"
  refine ite2 (fun _ => ?_) (fun _ => ?_)
  · walk_at "go"
    exact fin (.bl true) _ ⟨(Sm.bl true).le (by decide) (by decide), by show dSign (py _) = false; rw [py]; rfl⟩ g1
  walk_at "go"
  refine ite2 (fun _ => ?_) (fun _ => ?_)
  · walk_at "go"
    exact fin (.str "abc") _ ⟨(Sm.str (by decide +kernel)).le (by decide) (by decide), by show dSign (py _) = false; rw [py]; rfl⟩ g1
  walk_at "go"
  refine ite2 (fun _ => ?_) (fun _ => ?_)
  · walk_at "go"
    exact fun a => fin (.dic a) _ ⟨(Sm.dic a).le (by decide) (by decide), by show dSign (py _) = false; rw [py]; rfl⟩ g1
  walk_at "go"
  refine ite2 (fun _ => ?_) (fun _ => ?_)
  · walk_at "go"
    intro j S2 hj g2 l2
    walk_at "go"
    exact fin (.int (100 + j)) _ ⟨(Sm.int (Nat.lt_of_le_of_lt (m := 103) (by have := hj.1; have := hj.2; omega) (by decide))).le (by decide) (by decide), by show dSign (py _) = false; rw [py]; show (decide (0 ≤ 100 + j) && decide (100 + j < 100)) = false; rw [decide_eq_false (show ¬ (100 + j < 100) by have := hj.1; omega), Bool.and_false]⟩ (g1.trans g2)
  walk_at "go"
  refine ite2 (fun _ => ?_) (fun _ => ?_)
  · walk_at "go"
    intro j S2 hj g2 l2
    walk_at "go"
    exact fin (.int (-1 - j)) _ ⟨(Sm.int (Nat.lt_of_le_of_lt (m := 103) (by have := hj.1; have := hj.2; omega) (by decide))).le (by decide) (by decide), by show dSign (py _) = false; rw [py]; show (decide (0 ≤ -1 - j) && decide (-1 - j < 100)) = false; rw [decide_eq_false (show ¬ (0 ≤ -1 - j) by have := hj.1; omega), Bool.false_and]⟩ (g1.trans g2)
  walk_at "go"
  refine ite2 (fun _ => ?_) (fun _ => ?_)
  · walk_at "go"
    exact fin (.lst [.int 1, .int 2]) _ ⟨(Sm.lst (n := 46) (k := 0) (ds := [.int 1, .int 2]) (fun d hd => by rcases List.mem_cons.mp hd with rfl | hd; exact i1; rw [List.mem_singleton.mp hd]; exact i2)).le (by decide) (by decide), by show dSign (py _) = false; rw [py]; rfl⟩ ((g1.push _).set (by have := ht.lt; omega) ht.lt _)
  walk_at "go"
  refine ite2 (fun _ => ?_) (fun _ => ?_)
  · walk_at "go"
    exact fin (.tup [.int 0, .int 1]) _ ⟨(Sm.tup (n := 46) (k := 0) (ds := [.int 0, .int 1]) (fun d hd => by rcases List.mem_cons.mp hd with rfl | hd; exact i0; rw [List.mem_singleton.mp hd]; exact i1)).le (by decide) (by decide), by show dSign (py _) = false; rw [py]; rfl⟩ g1
  walk_at "go"
  refine ite2 (fun _ => ?_) (fun _ => ?_)
  · walk_at "go"
    exact fin (.str "") _ ⟨(Sm.str (by decide +kernel)).le (by decide) (by decide), by show dSign (py _) = false; rw [py]; rfl⟩ g1
  walk_at "go"
  refine ite2 (fun _ => ?_) (fun _ => ?_)
  · walk_at "go"
    exact fin (.bl false) _ ⟨(Sm.bl false).le (by decide) (by decide), by show dSign (py _) = false; rw [py]; rfl⟩ g1
  walk_at "go"
  refine ite2 (fun _ => ?_) (fun _ => ?_)
  · walk_at "go"
    refine ⟨by unfold CPow; decide, ?_⟩
    exact fin (.int (10 ^ (20 : Int).toNat)) _ ⟨(Sm.int (by decide)).le (by decide) (by decide), by show dSign (py _) = false; rw [py]; decide⟩ g1
  walk_at "go"
  have hl : Sm 98 1 (.lst [.int 1]) := (Sm.lst (n := 46) (k := 0) (ds := [.int 1]) (fun d hd => by rw [List.mem_singleton.mp hd]; exact i1)).le (by decide) (by decide)
  exact fin (.lst [.lst [.int 1], .int 2]) _ ⟨(Sm.lst (n := 98) (k := 1) (ds := [.lst [.int 1], .int 2]) (fun d hd => by rcases List.mem_cons.mp hd with rfl | hd; exact (hl.le (by decide) (by decide)); rw [List.mem_singleton.mp hd]; exact (i2.le (by decide) (by decide)))).le (by decide) (by decide), by show dSign (py _) = false; rw [py]; rfl⟩ ((((g1.push _).set (by have := ht.lt; omega) ht.lt _).push _).set (by simp only [List.length_set, List.length_append, List.length_cons, List.length_nil]; omega) ht.lt _)

theorem ok_law_no_thing (T : Tx K mg fI fI_TooLong fI_Finished fI_NothingDone c_MadeError c_BadRow c_BadThing c_BadForm c_BadSign c_TooLong c_Finished c_NothingDone c_Rules c_Program c_Machine) (Df : Dx K mg "_law_no_thing" s_law_no_thing ["tape", "good"]) (C_law_pick : Fd.Pr P w K mg base 1 "_law_pick" ["tape", "size"] (lift sdPick)) (C_law_odd : Fd.Pr P w K mg base 2 "_law_odd" ["tape"] (lift sdOdd12)) : Fd.Pr P w K mg base 3 "_law_no_thing" ["tape", "good"] (lift sdNoThing12) := by
  refine Va.Dx.prV Df sc_law_no_thing (fun ws S Q E h => ?_) (fun f cdv A outer s B ws Q Ed E hr le h => ⟨_,
      (vs_cons (v_set _ (ps_set (i := 2) sc_law_no_thing.nd rfl (Or.inl rfl) (v_call le (pe_callP C_law_pick (hr.mono (by decide)) (by rfl) (passes_call (takes_of rfl rfl rfl rfl) fun _ _ _ _ z => z) (va_cons (vv 0 (pv 0)) (va_cons v_int va_nil))))))
      (vs_cons (v_set _ (ps_set (i := 3) sc_law_no_thing.nd rfl (Or.inl rfl) (v_frz (v_op o_cat (v_lst (va_cons (v_op o_add v_int (v_call le (pe_callP C_law_pick (hr.mono (by decide)) (by rfl) (passes_call (takes_of rfl rfl rfl rfl) fun _ _ _ _ z => z) (va_cons (vv 0 (pv 0)) (va_cons v_int va_nil))))) va_nil)) (vv 1 (pv 1))))))
      (vs_cons (v_if (vt_cmp o_eq (vv 2 (pv 2)) v_int)
        (vs_one (v_ret (v_ixI (v_frz (v_lst (va_cons v_non (va_cons v_bl (va_cons v_int (va_cons v_str (va_cons v_dic (va_cons v_str (va_cons v_int va_nil))))))))) (v_call le (pe_callP C_law_pick (hr.mono (by decide)) (by rfl) (passes_call (takes_of rfl rfl rfl rfl) fun _ _ _ _ z => z) (va_cons (vv 0 (pv 0)) (va_cons v_int va_nil)))))))
        vs_nil)
      (vs_cut (v_if (vt_cmp o_eq (vv 2 (pv 2)) v_int)
        (vs_one (v_set _ (ps_set (i := 3) sc_law_no_thing.nd rfl (Or.inl rfl) (v_frz (v_slice s_list (v_lst (va_cons (v_call le (pe_callP C_law_pick (hr.mono (by decide)) (by rfl) (passes_call (takes_of rfl rfl rfl rfl) fun _ _ _ _ z => z) (va_cons (vv 0 (pv 0)) (va_cons v_int va_nil)))) va_nil)) vo_none (vo_some (v_call le (pe_callP C_law_pick (hr.mono (by decide)) (by rfl) (passes_call (takes_of rfl rfl rfl rfl) fun _ _ _ _ z => z) (va_cons (vv 0 (pv 0)) (va_cons v_int va_nil))))))))))
        vs_nil)
      (vs_cut (v_if (vt_cmp o_eq (vv 2 (pv 2)) v_int)
        (vs_cons (v_set _ (ps_set (i := 3) sc_law_no_thing.nd rfl (Or.inl rfl) (v_frz (v_op o_cat (v_lst (va_cons (v_call le (pe_callP C_law_pick (hr.mono (by decide)) (by rfl) (passes_call (takes_of rfl rfl rfl rfl) fun _ _ _ _ z => z) (va_cons (vv 0 (pv 0)) (va_cons v_int va_nil)))) (va_cons (v_call le (pe_callP C_law_pick (hr.mono (by decide)) (by rfl) (passes_call (takes_of rfl rfl rfl rfl) fun _ _ _ _ z => z) (va_cons (vv 0 (pv 0)) (va_cons v_int va_nil)))) va_nil))) (vv 1 (pv 1))))))
        (vs_cons (v_set _ (ps_set (i := 4) sc_law_no_thing.nd rfl (Or.inl rfl) (v_call le (pe_callP C_law_pick (hr.mono (by decide)) (by rfl) (passes_call (takes_of rfl rfl rfl rfl) fun _ _ _ _ z => z) (va_cons (vv 0 (pv 0)) (va_cons (v_op o_add (v_cb up_lenI (pe_callB call_len (by rfl) T.n.n_len (by decide +kernel) (va_cons (vv 3 (pv 3)) va_nil))) v_int) va_nil))))))
        (vs_one (v_set _ (ps_set (i := 3) sc_law_no_thing.nd rfl (Or.inl rfl) (v_frz (v_op o_cat (v_op o_cat (v_slice s_list (vv 3 (pv 3)) vo_none (vo_some (vv 4 (pv 4)))) (v_lst (va_cons (v_call le (pe_callP C_law_odd (hr.mono (by decide)) (by rfl) (passes_call (takes_of rfl rfl rfl rfl) fun _ _ _ _ z => z) (va_cons (vv 0 (pv 0)) va_nil))) va_nil))) (v_slice s_list (vv 3 (pv 3)) (vo_some (vv 4 (pv 4))) vo_none))))))))
        vs_nil)
      (vs_cons (v_if (vt_cmp o_eq (v_call le (pe_callP C_law_pick (hr.mono (by decide)) (by rfl) (passes_call (takes_of rfl rfl rfl rfl) fun _ _ _ _ z => z) (va_cons (vv 0 (pv 0)) (va_cons v_int va_nil)))) v_int)
        (vs_one (v_ret (v_cb up_tuple (pe_callTy call_tuple_of (by rfl) T.n.n_tuple (by decide +kernel) (va_cons (vv 3 (pv 3)) va_nil)))))
        vs_nil)
      (vs_one (v_ret (vv 3 (pv 3)))))))))), ?_⟩)
  · obtain ⟨t, g, rfl, _⟩ := h
    rfl
  obtain ⟨t, g, rfl, ht, hs, hl, q⟩ := h
  have fin : ∀ d S', NoTh12 d → Gr t B.S S' → Rt B.S.length Q (.dat d) S' := fun d S' o g => rt_dat d q ht o g
  have sg : ∀ d ∈ g.map D.int, Sm 400 3 d := fun d hd => by
    obtain ⟨x, hx, rfl⟩ := List.mem_map.mp hd
    exact (Sm.sgn (hs x hx)).le (by decide) (by decide)
  have big : ∀ (b : Bool) (ds : List D), (∀ d ∈ ds, Sm 400 3 d) → ds.length ≤ 9 → Sm 6000 4 (sq b ds) := fun b ds h l => Sm.sq (m := 9) h l (by decide)
  walk_at "go"
  intro kd S1 hk g1 l1
  walk_at "go"
  intro a S2 ha g2 l2
  have t2 := g2.tape.lt
  have G2 := g1.trans g2
  walk_at "go"
  refine ite2 (fun _ => ?_) (fun e0 => ?_)
  · walk_at "go"
    intro ad
    walk_at "go"
    intro c S3 hc g3 l3
    walk_at "go"
    have G3 : Gr t B.S S3 := by
      refine Gr.trans ?_ g3
      (repeat' (first | assumption | refine Gr.push ?_ _ | refine Gr.set ?_ ?_ ht.lt _ | (simp only [List.length_set, List.length_append, List.length_cons, List.length_nil]; omega)))
    have i7 : Sm 46 0 (.int 7) := Sm.sgn ⟨by decide, by decide⟩
    have i0 : Sm 46 0 (.int 0) := Sm.sgn ⟨by decide, by decide⟩
    have hc0 := hc.1
    have hc1 := hc.2
    rw [rdIxI_eq]
    have hcc : c = 0 ∨ c = 1 ∨ c = 2 ∨ c = 3 ∨ c = 4 ∨ c = 5 ∨ c = 6 := by omega
    rcases hcc with rfl | rfl | rfl | rfl | rfl | rfl | rfl
    · exact ⟨_, rfl, .inl ⟨_, .non, .inl rfl, rfl, fin .non _ ⟨Sm.non.le (by decide) (by decide), rfl⟩ G3⟩⟩
    · exact ⟨_, rfl, .inl ⟨_, .bl true, .inl rfl, rfl, fin (.bl true) _ ⟨(Sm.bl true).le (by decide) (by decide), rfl⟩ G3⟩⟩
    · exact ⟨_, rfl, .inl ⟨_, .int 7, .inl rfl, rfl, fin (.int 7) _ ⟨i7.le (by decide) (by decide), rfl⟩ G3⟩⟩
    · exact ⟨_, rfl, .inl ⟨_, .str "12", .inl rfl, rfl, fin (.str "12") _ ⟨(Sm.str (by decide +kernel)).le (by decide) (by decide), rfl⟩ G3⟩⟩
    · exact ⟨_, rfl, .inl ⟨_, .dic ad, .inl rfl, rfl, fin (.dic ad) _ ⟨(Sm.dic ad).le (by decide) (by decide), by rw [py]; rfl⟩ G3⟩⟩
    · exact ⟨_, rfl, .inl ⟨_, .str "", .inl rfl, rfl, fin (.str "") _ ⟨(Sm.str (by decide +kernel)).le (by decide) (by decide), rfl⟩ G3⟩⟩
    · exact ⟨_, rfl, .inl ⟨_, .int 0, .inl rfl, rfl, fin (.int 0) _ ⟨i0.le (by decide) (by decide), rfl⟩ G3⟩⟩
  · walk_at "go"
    refine ⟨fun δ => ∃ ds S, δ = ⟨[some (.own t), some (.dat (.lst (g.map D.int))), some (.dat (.int kd)), some (.dat (.lst ds)), none], S⟩ ∧ Gr t B.S S ∧ (∀ d ∈ ds, Sm 400 3 d) ∧ ds.length ≤ 9 ∧ (kd ≠ 2 → ∀ b, dThing (py (sq b ds)) = false), ?_, ?_⟩
    · walk_at "go"
      refine ite2 (fun _ => ?_) (fun e1 => ?_)
      · walk_at "go"
        intro c S3 hc g3 l3
        have t3 := g3.tape.lt
        walk_at "go"
        intro c2 S4 hc2 g4 l4
        have t4 := g4.tape.lt
        walk_at "go"
        have hc20 := hc2.1
        have hc21 := hc2.2
        have n2 := G2.ln
        have G3 : Gr t B.S S3 := by
          refine Gr.trans ?_ g3
          (repeat' (first | assumption | refine Gr.push ?_ _ | refine Gr.set ?_ ?_ ht.lt _ | (simp only [List.length_set, List.length_append, List.length_cons, List.length_nil]; omega)))
        have G4 : Gr t B.S S4 := (G3.push _).trans g4
        have n4 := G4.ln
        obtain ⟨m2, rfl⟩ := Int.eq_ofNat_of_zero_le hc20
        rw [cutD_to]
        refine ⟨?_, fun d hd => ?_, ?_, fun _ b => thing_short ?_⟩
        · (repeat' (first | assumption | refine Gr.push ?_ _ | refine Gr.set ?_ ?_ ht.lt _ | (simp only [List.length_set, List.length_append, List.length_cons, List.length_nil]; omega)))
        · rw [List.mem_singleton.mp (List.mem_of_mem_take hd)]
          exact (Sm.sgn hc).le (by decide) (by decide)
        · rw [List.length_take]
          simp only [List.length_cons, List.length_nil]
          omega
        · rw [List.length_take]
          simp only [List.length_cons, List.length_nil]
          omega
      · have ha0 := ha.1
        have ha1 := ha.2
        refine ⟨_, _, rfl, ?_, fun d hd => ?_, ?_, fun _ b => thing_first (by omega)⟩
        · (repeat' (first | assumption | refine Gr.push ?_ _ | refine Gr.set ?_ ?_ ht.lt _ | (simp only [List.length_set, List.length_append, List.length_cons, List.length_nil]; omega)))
        · rcases List.mem_cons.mp hd with rfl | hd
          · exact (Sm.sgn ⟨by omega, by omega⟩).le (by decide) (by decide)
          · exact sg d hd
        · simp only [List.length_append, List.length_cons, List.length_nil, List.length_map]
          omega
    rintro _ ⟨ds, S5, rfl, g5, sd, ld, nd⟩
    have t5 := g5.tape.lt
    refine ⟨fun δ => ∃ ds S o, δ = ⟨[some (.own t), some (.dat (.lst (g.map D.int))), some (.dat (.int kd)), some (.dat (.lst ds)), o], S⟩ ∧ Gr t B.S S ∧ (∀ d ∈ ds, Sm 400 3 d) ∧ ds.length ≤ 9 ∧ (∀ b, dThing (py (sq b ds)) = false), ?_, ?_⟩
    · walk_at "go"
      refine ite2 (fun _ => ?_) (fun e1 => ?_)
      · walk_at "go"
        intro c S6 hc g6 l6
        have t6 := g6.tape.lt
        walk_at "go"
        intro c2 S7 hc2 g7 l7
        have t7 := g7.tape.lt
        walk_at "go"
        intro c3 S8 hc3 g8 l8
        have t8 := g8.tape.lt
        walk_at "go"
        intro od S9 ho g9 l9
        have t9 := g9.tape.lt
        walk_at "go"
        have n5 := g5.ln
        have G7 : Gr t B.S S7 := (g5.trans g6).trans g7
        have n7 := G7.ln
        have G8 : Gr t B.S S8 := by
          refine Gr.trans ?_ g8
          (repeat' (first | assumption | refine Gr.push ?_ _ | refine Gr.set ?_ ?_ ht.lt _ | (simp only [List.length_set, List.length_append, List.length_cons, List.length_nil]; omega)))
        have n8 := G8.ln
        have G9 : Gr t B.S S9 := by
          refine Gr.trans ?_ g9
          (repeat' (first | assumption | refine Gr.push ?_ _ | refine Gr.set ?_ ?_ ht.lt _ | (simp only [List.length_set, List.length_append, List.length_cons, List.length_nil]; omega)))
        have n9 := G9.ln
        have hc30 := hc3.1
        obtain ⟨m3, rfl⟩ := Int.eq_ofNat_of_zero_le hc30
        rw [cutD_to]
        refine ⟨Nat.le_trans (m := 20) (by simp only [List.length_append, List.length_take, List.length_drop, List.length_cons, List.length_nil, List.length_map]; omega) (by decide), ?_⟩
        walk_at "go"
        rw [cutD_from]
        refine ⟨Nat.le_trans (m := 20) (by simp only [List.length_append, List.length_take, List.length_drop, List.length_cons, List.length_nil, List.length_map]; omega) (by decide), ?_⟩
        walk_at "go"
        have sL : ∀ d ∈ [D.int c, D.int c2] ++ g.map D.int, Sm 400 3 d := fun d hd => by
          rcases List.mem_append.mp hd with hd | hd
          · rcases List.mem_cons.mp hd with rfl | hd
            · exact (Sm.sgn ⟨hc.1, Int.lt_trans hc.2 (by decide)⟩).le (by decide) (by decide)
            · rw [List.mem_singleton.mp hd]
              exact (Sm.sgn hc2).le (by decide) (by decide)
          · exact sg d hd
        refine ⟨?_, fun d hd => ?_, by simp only [List.length_append, List.length_take, List.length_drop, List.length_cons, List.length_nil, List.length_map]; omega, fun b => thing_row (row_odd (x := od) (List.mem_append_left _ (List.mem_append_right _ (List.mem_singleton.mpr rfl))) ho.n)⟩
        · (repeat' (first | assumption | refine Gr.push ?_ _ | refine Gr.set ?_ ?_ ht.lt _ | (simp only [List.length_set, List.length_append, List.length_cons, List.length_nil]; omega)))
        · rcases List.mem_append.mp hd with hd | hd
          · rcases List.mem_append.mp hd with hd | hd
            · exact sL d (List.mem_of_mem_take hd)
            · rw [List.mem_singleton.mp hd]
              exact ho.s
          · exact sL d (List.mem_of_mem_drop hd)
      · exact ⟨ds, S5, _, rfl, g5, sd, ld, nd (fun z => by subst z; exact e1 rfl)⟩
    rintro _ ⟨ds, S6, o, rfl, g6, sd, ld, nd⟩
    walk_at "go"
    intro y S7 hy g7 l7
    walk_at "go"
    refine ite2 (fun _ => ?_) (fun _ => ?_)
    · walk_at "go"
      exact fin (.tup ds) _ ⟨big false ds sd ld, nd false⟩ (g6.trans g7)
    · walk_at "go"
      exact fin (.lst ds) _ ⟨big true ds sd ld, nd true⟩ (g6.trans g7)

theorem ok_law_tried (T : Tx K mg fI fI_TooLong fI_Finished fI_NothingDone c_MadeError c_BadRow c_BadThing c_BadForm c_BadSign c_TooLong c_Finished c_NothingDone c_Rules c_Program c_Machine) (Df : Dx K mg "_law_tried" s_law_tried ["kind", "row"]) (C_Rules : PrC P w K mg base 6 "Rules" c_Rules ["self", "body"] (sdInitRE c_Rules c_BadRow)) (C_write_body : Fd.Pr P w K mg base 8 "write_body" ["body"] (lift (sdWriteBE c_BadRow))) (C_thing_of : Fd.Pr P w K mg base 4 "thing_of" ["form", "number", "body"] (lift (sdThingOfE c_BadRow))) (C_Machine : PrC P w K mg base 10 "Machine" c_Machine ["self", "thing", "row"] (sdInitM c_Machine c_Program c_BadThing c_BadRow)) (P_Machine_row : PrpF P w K mg base 1 c_Machine "row" ["self"] (sdFld c_Machine "_row")) (C_run : Fd.Pr P w K mg base 12 "run" ["thing", "row"] (lift (sdRun c_BadThing c_BadRow))) : Fd.Pr P w K mg base 13 "_law_tried" ["kind", "row"] (lift sdTried12) := by
  refine Va.Dx.prV Df sc_law_tried (fun ws S Q E h => ?_) (fun f cdv A outer s B ws Q Ed E hr le h => ⟨_,
      (vs_one (v_try (i := 2) (c := c_MadeError) rfl rfl sc_law_tried.nd rfl rfl ⟨rfl, by decide, Or.inl T.x_MadeError.g⟩
        (fun B1 Wd W pn xe tk lw => (vs_cons (v_if (vt_cmp o_eq (vv 0 (pv 0)) v_int)
          (vs_one (v_ret (v_tup (va_cons v_str (va_cons (v_fld T.k_Rules.cl T.n_Rules_body (v_makeT lw (pe_makeS C_Rules (hr.mono (by decide)) tk (by rfl) (va_cons (vv 1 (pv 1)) va_nil)))) va_nil)))))
          vs_nil)
        (vs_cons (v_if (vt_cmp o_eq (vv 0 (pv 0)) v_int)
          (vs_one (v_ret (v_tup (va_cons v_str (va_cons (v_slice s_str (v_callT lw (pe_callT C_write_body (hr.mono (by decide)) tk (by rfl) (va_cons (vv 1 (pv 1)) va_nil))) vo_none (vo_some v_int)) va_nil)))))
          vs_nil)
        (vs_cons (v_if (vt_cmp o_eq (vv 0 (pv 0)) v_int)
          (vs_one (v_ret (v_tup (va_cons v_str (va_cons (v_slice s_tup (v_callT lw (pe_callT C_thing_of (hr.mono (by decide)) tk (by rfl) (va_cons v_int (va_cons v_int (va_cons (vv 1 (pv 1)) va_nil))))) (vo_some v_int) vo_none) va_nil)))))
          vs_nil)
        (vs_cons (v_if (vt_cmp o_eq (vv 0 (pv 0)) v_int)
          (vs_one (v_ret (v_tup (va_cons v_str (va_cons (v_prop le0 (pe_propM P_Machine_row T.k_Machine.cl (hr.mono (by decide)) (passes_call takes0 fun _ _ _ _ z => z) (v_makeT lw (pe_makeS C_Machine (hr.mono (by decide)) tk (by rfl) (va_cons (v_tup (va_cons v_int (va_cons v_int va_nil))) (va_cons (vv 1 (pv 1)) va_nil)))))) va_nil)))))
          vs_nil)
        (vs_one (v_ret (v_tup (va_cons v_str (va_cons (v_callT lw (pe_callT C_run (hr.mono (by decide)) tk (by rfl) (va_cons (v_tup (va_cons v_int (va_cons v_int (va_cons v_int va_nil)))) (va_cons (vv 1 (pv 1)) va_nil)))) va_nil))))))))))
        (fun B2 a oe C dd v d pn hz hf er => (vs_cons (v_if (PW.pt (vw_and (vt_val (v_isE2 hz hf er (pe_callB (call_isD hz hf) (by rfl) T.n.n_isinstance (by decide +kernel) (va_cons (vv 2 (pv 2)) (va_cons (v_con (pe_glob (v := .ref c_BadRow) rfl T.x_BadRow.g rfl)) va_nil))))) (vw_and1 (vt_not (vt_val (v_isE2 hz hf er (pe_callB (call_isD hz hf) (by rfl) T.n.n_isinstance (by decide +kernel) (va_cons (vv 2 (pv 2)) (va_cons (v_con (pe_glob (v := .ref c_BadThing) rfl T.x_BadThing.g rfl)) va_nil)))))))))
          (vs_one (v_ret (v_tup (va_cons v_str (va_cons (v_xf hz hf er (vv 2 (pv 2))) va_nil)))))
          vs_nil)
        (vs_one (v_ret (v_tup (va_cons v_str (va_cons v_int va_nil))))))))), ?_⟩)
  · obtain ⟨k, d, rfl, _⟩ := h
    rfl
  obtain ⟨k, d, rfl, hk0, hk5, pd, hl, qb, qg⟩ := h
  have two : 2 ≤ sizeLine := by decide
  refine ⟨fun C v δ' => C = c_BadRow ∧ v = d ∧ dRow (py d) = false ∧ ∃ S', Gp B.S S' ∧ δ' = ⟨[some (.dat (.int k)), some (.dat d), none], S'⟩, ?_, ?_⟩
  rotate_left
  · rintro _ _ _ ⟨rfl, rfl, hb, S', g, rfl⟩
    refine ⟨T.e_BadRow, T.m_BadRow, fun a => ?_⟩
    exact ⟨_, rfl, _, _, rfl, T.k1_BadRow, _, rfl, ifT rfl ⟨_, rfl, _, _, rfl, T.k2_BadRow, _, rfl, ifT rfl ⟨_, rfl, rfl, two, rt_pd g (qb hb)⟩⟩⟩
  have hk : k = 0 ∨ k = 1 ∨ k = 2 ∨ k = 3 ∨ k = 4 := by omega
  rcases hk with rfl | rfl | rfl | rfl | rfl
  · walk_at "go"
    cases cr : dRow (py d) with
    | false => exact .inr ⟨_, d, rfl, pd, cr, rfl, rfl, rfl, _, Gp.refl.push _, rfl⟩
    | true =>
      obtain ⟨b, bs, rfl, hs, hl, q⟩ := qg cr
      refine .inl ⟨_, _, bs, rfl, push_get, sq_pks, hs, by omega, (fun z => nomatch z), rfl, ?_⟩
      walk_at "go"
      exact rt_pd ((Gp.refl.push _).set (Nat.le_refl _) _) q
  · walk_at "go"
    cases cr : dRow (py d) with
    | false => exact .inr ⟨d, rfl, pd, cr, rfl, rfl, rfl, _, Gp.refl, rfl⟩
    | true =>
      obtain ⟨b, bs, rfl, hs, hl, q⟩ := qg cr
      refine .inl ⟨b, bs, rfl, hs, by omega, ?_⟩
      walk_at "go"
      have hro := rulesOf_ok (n := bs.length) (r := bs.drop 1) (Sgn.suf hs (List.drop_suffix _ _))
      have hbo := boS_len (head_ok hs) hro.1
      have hlen := hro.2.1
      rw [List.length_drop] at hlen
      refine ⟨Nat.le_trans (m := 20000) (by omega) (by decide), ?_⟩
      walk_at "go"
      rw [boS_six]
      exact rt_pd Gp.refl q
  · walk_at "go"
    cases cr : dRow (py d) with
    | false => exact .inr ⟨0, 0, d, rfl, by decide, ⟨by decide, by decide⟩, pd, by omega, cr, rfl, rfl, rfl, _, Gp.refl, rfl⟩
    | true =>
      obtain ⟨b, bs, rfl, hs, hl, q⟩ := qg cr
      refine .inl ⟨0, 0, b, bs, rfl, by decide, ⟨by decide, by decide⟩, hs, by omega, ?_⟩
      walk_at "go"
      rw [cut_thing hs]
      exact rt_pd Gp.refl q
  · walk_at "go"
    unfold sdInitM
    refine ⟨_, .tup [.int 0, .int 0], d, rfl, rfl, pd, push_get, fun e => absurd e (by decide +kernel), fun _ e => ⟨rfl, rfl, e, _, Gp.refl.push _, rfl⟩, fun _ cr => ?_⟩
    obtain ⟨b, bs, rfl, hs, hl, q⟩ := qg cr
    refine ⟨0, 0, [], bs, false, b, rfl, rfl, by decide, ⟨by decide, by decide⟩, (fun _ z => nomatch z), by decide, hs, by omega, ?_⟩
    intro S' I hk hw hl ln kp M
    obtain ⟨aP, aT, aW, aL, M⟩ := M
    have ek := M.ek
    rw [hk] at ek
    walk_at "go"
    refine rt_pd ?_ q
    show S'.take B.S.length = B.S
    have hl := ln
    simp only [List.length_append, List.length_cons, List.length_nil] at hl
    rw [take_same (S := B.S) fun i hi => by rw [kp i (show i < (B.S ++ [_]).length by rw [List.length_append]; omega) (show i ≠ B.S.length by omega)]; exact List.getElem?_append_left hi]
  · walk_at "go"
    unfold sdRun
    refine ⟨.tup [.int 0, .int 0, .int 5], d, rfl, rfl, pd, fun e => absurd e (by decide +kernel), fun _ e => ⟨rfl, rfl, e, _, Gp.refl, rfl⟩, fun _ cr => ?_⟩
    obtain ⟨b, bs, rfl, hs, hl, q⟩ := qg cr
    refine ⟨0, 0, [5], bs, [], false, b, rfl, rfl, by decide, ⟨by decide, by decide⟩, (fun x z => by rw [List.mem_singleton.mp z]; exact ⟨by decide, by decide⟩), by decide, hs, by omega, ?_, ?_⟩
    · exact runR_five bs
    walk_at "go"
    exact rt_pd Gp.refl q

theorem ok_law_tried_thing (T : Tx K mg fI fI_TooLong fI_Finished fI_NothingDone c_MadeError c_BadRow c_BadThing c_BadForm c_BadSign c_TooLong c_Finished c_NothingDone c_Rules c_Program c_Machine) (Df : Dx K mg "_law_tried_thing" s_law_tried_thing ["kind", "thing", "row"]) (C_Machine : PrC P w K mg base 10 "Machine" c_Machine ["self", "thing", "row"] (sdInitM c_Machine c_Program c_BadThing c_BadRow)) (P_Machine_row : PrpF P w K mg base 1 c_Machine "row" ["self"] (sdFld c_Machine "_row")) (C_run : Fd.Pr P w K mg base 12 "run" ["thing", "row"] (lift (sdRun c_BadThing c_BadRow))) : Fd.Pr P w K mg base 13 "_law_tried_thing" ["kind", "thing", "row"] (lift sdTriedT12) := by
  refine Va.Dx.prV Df sc_law_tried_thing (fun ws S Q E h => ?_) (fun f cdv A outer s B ws Q Ed E hr le h => ⟨_,
      (vs_one (v_try (i := 3) (c := c_MadeError) rfl rfl sc_law_tried_thing.nd rfl rfl ⟨rfl, by decide, Or.inl T.x_MadeError.g⟩
        (fun B1 Wd W pn xe tk lw => (vs_cons (v_if (vt_cmp o_eq (vv 0 (pv 0)) v_int)
          (vs_one (v_ret (v_tup (va_cons v_str (va_cons (v_prop le0 (pe_propM P_Machine_row T.k_Machine.cl (hr.mono (by decide)) (passes_call takes0 fun _ _ _ _ z => z) (v_makeT lw (pe_makeS C_Machine (hr.mono (by decide)) tk (by rfl) (va_cons (vv 1 (pv 1)) (va_cons (vv 2 (pv 2)) va_nil)))))) va_nil)))))
          vs_nil)
        (vs_one (v_ret (v_tup (va_cons v_str (va_cons (v_callT lw (pe_callT C_run (hr.mono (by decide)) tk (by rfl) (va_cons (vv 1 (pv 1)) (va_cons (vv 2 (pv 2)) va_nil)))) va_nil)))))))
        (fun B2 a oe C dd v d pn hz hf er => (vs_cons (v_if (PW.pt (vw_and (vt_val (v_isE2 hz hf er (pe_callB (call_isD hz hf) (by rfl) T.n.n_isinstance (by decide +kernel) (va_cons (vv 3 (pv 3)) (va_cons (v_con (pe_glob (v := .ref c_BadThing) rfl T.x_BadThing.g rfl)) va_nil))))) (vw_and1 (vt_not (vt_val (v_isE2 hz hf er (pe_callB (call_isD hz hf) (by rfl) T.n.n_isinstance (by decide +kernel) (va_cons (vv 3 (pv 3)) (va_cons (v_con (pe_glob (v := .ref c_BadRow) rfl T.x_BadRow.g rfl)) va_nil)))))))))
          (vs_one (v_ret (v_tup (va_cons v_str (va_cons (v_xf hz hf er (vv 3 (pv 3))) va_nil)))))
          vs_nil)
        (vs_one (v_ret (v_tup (va_cons v_str (va_cons v_int va_nil))))))))), ?_⟩)
  · obtain ⟨k, t, r, rfl, _⟩ := h
    rfl
  obtain ⟨k, t, r, rfl, hk0, hk5, pt, pr, hb, q⟩ := h
  have two : 2 ≤ sizeLine := by decide
  refine ⟨fun C v δ' => C = c_BadThing ∧ v = t ∧ ∃ S', Gp B.S S' ∧ δ' = ⟨[some (.dat (.int k)), some (.dat t), some (.dat r), none], S'⟩, ?_, ?_⟩
  rotate_left
  · rintro _ _ _ ⟨rfl, rfl, S', g, rfl⟩
    refine ⟨T.e_BadThing, T.m_BadThing, fun a => ?_⟩
    exact ⟨_, rfl, _, _, rfl, T.k1_BadThing, _, rfl, ifT rfl ⟨_, rfl, _, _, rfl, T.k2_BadThing, _, rfl, ifT rfl ⟨_, rfl, rfl, two, rt_pd g q⟩⟩⟩
  have hk : k = 0 ∨ k = 1 := by omega
  rcases hk with rfl | rfl
  · walk_at "go"
    unfold sdInitM
    exact ⟨_, t, r, rfl, pt, pr, push_get, fun _ => ⟨rfl, rfl, _, Gp.refl.push _, rfl⟩, fun e => absurd (e.symm.trans hb) (by decide), fun e => absurd (e.symm.trans hb) (by decide)⟩
  · walk_at "go"
    unfold sdRun
    exact ⟨t, r, rfl, pt, pr, fun _ => ⟨rfl, rfl, _, Gp.refl, rfl⟩, fun e => absurd (e.symm.trans hb) (by decide), fun e => absurd (e.symm.trans hb) (by decide)⟩

def spLaw (K : PySem.W.Frag) : Sp := fun vs H Q _ => ∃ (a : Addr) (ns : List Int), vs = [.ref a] ∧ SqL K H a (ns.map V.int) ∧ ns.length ≤ 63 ∧ ∀ H', Q (.bl true) H'
theorem ok_law {f : Addr} {fd : FuncData} (T : Tx K mg fI fI_TooLong fI_Finished fI_NothingDone c_MadeError c_BadRow c_BadThing c_BadForm c_BadSign c_TooLong c_Finished c_NothingDone c_Rules c_Program c_Machine) (F : Fun K "law" "law" s_law f fd) (C_law_tape : Fd.Pr P w K mg base 1 "_law_tape" ["script"] (spTape K)) (C_law_pick : Fd.Pr P w K mg base 1 "_law_pick" ["tape", "size"] (lift sdPick)) (C_law_signs : Fd.Pr P w K mg base 3 "_law_signs" ["tape", "many"] (lift sdSigns)) (C_law_odd : Fd.Pr P w K mg base 2 "_law_odd" ["tape"] (lift sdOdd12)) (C_law_no_thing : Fd.Pr P w K mg base 3 "_law_no_thing" ["tape", "good"] (lift sdNoThing12)) (C_law_tried_thing : Fd.Pr P w K mg base 13 "_law_tried_thing" ["kind", "thing", "row"] (lift sdTriedT12)) (C_law_tried : Fd.Pr P w K mg base 13 "_law_tried" ["kind", "row"] (lift sdTried12)) : FnG P w K mg base 14 f fd ["script"] (spLaw K) := by
  refine fun_okG F sc_law (fun vs H Q E h => ?_) (fun cdv A outer s H vs Q E hg hr h => ?_)
  · obtain ⟨a, ns, rfl, _⟩ := h
    rfl
  obtain ⟨sc, ns, rfl, hS, hn, q⟩ := h
  have le : LE ⟨[], [], H⟩ (fun _ _ _ => False) E := fun _ _ _ _ _ _ _ z => z.elim
  refine ⟨_, (vs_cons (v_set _ (ps_set (i := 1) sc_law.nd rfl (Or.inl rfl) (v_tape hS hn (pe_callP C_law_tape (hr.mono (by decide)) (by rfl) (passes_call (takes_of rfl rfl rfl rfl) fun _ _ _ _ z => z) (pa_cons (pv 0) pa_nil)))))
      (vs_cons (v_set _ (ps_set (i := 2) sc_law.nd rfl (Or.inl rfl) (v_frz (v_call le (pe_callP C_law_signs (hr.mono (by decide)) (by rfl) (passes_call (takes_of rfl rfl rfl rfl) fun _ _ _ _ z => z) (va_cons (vv 1 (pv 1)) (va_cons (v_call le (pe_callP C_law_pick (hr.mono (by decide)) (by rfl) (passes_call (takes_of rfl rfl rfl rfl) fun _ _ _ _ z => z) (va_cons (vv 1 (pv 1)) (va_cons v_int va_nil)))) va_nil)))))))
      (vs_cons (v_set _ (ps_set (i := 3) sc_law.nd rfl (Or.inl rfl) (v_call le (pe_callP C_law_pick (hr.mono (by decide)) (by rfl) (passes_call (takes_of rfl rfl rfl rfl) fun _ _ _ _ z => z) (va_cons (vv 1 (pv 1)) (va_cons (v_op o_add (v_cb up_lenI (pe_callB call_len (by rfl) T.n.n_len (by decide +kernel) (va_cons (vv 2 (pv 2)) va_nil))) v_int) va_nil))))))
      (vs_cons (v_set _ (ps_set (i := 4) sc_law.nd rfl (Or.inl rfl) (v_frz (v_op o_cat (v_op o_cat (v_slice s_list (vv 2 (pv 2)) vo_none (vo_some (vv 3 (pv 3)))) (v_lst (va_cons (v_call le (pe_callP C_law_odd (hr.mono (by decide)) (by rfl) (passes_call (takes_of rfl rfl rfl rfl) fun _ _ _ _ z => z) (va_cons (vv 1 (pv 1)) va_nil))) va_nil))) (v_slice s_list (vv 2 (pv 2)) (vo_some (vv 3 (pv 3))) vo_none)))))
      (vs_cut (v_if (vt_cmp o_eq (v_call le (pe_callP C_law_pick (hr.mono (by decide)) (by rfl) (passes_call (takes_of rfl rfl rfl rfl) fun _ _ _ _ z => z) (va_cons (vv 1 (pv 1)) (va_cons v_int va_nil)))) v_int)
        (vs_one (v_set _ (ps_set (i := 4) sc_law.nd rfl (Or.inl rfl) (v_cb up_tuple (pe_callTy call_tuple_of (by rfl) T.n.n_tuple (by decide +kernel) (va_cons (vv 4 (pv 4)) va_nil))))))
        vs_nil)
      (vs_cut (v_if (vt_cmp o_eq (v_call le (pe_callP C_law_pick (hr.mono (by decide)) (by rfl) (passes_call (takes_of rfl rfl rfl rfl) fun _ _ _ _ z => z) (va_cons (vv 1 (pv 1)) (va_cons v_int va_nil)))) v_int)
        (vs_one (v_set _ (ps_set (i := 4) sc_law.nd rfl (Or.inl rfl) (v_ixI (v_frz (v_lst (va_cons v_non (va_cons v_bl (va_cons v_int (va_cons v_str (va_cons v_dic (va_cons v_str (va_cons v_int va_nil))))))))) (v_call le (pe_callP C_law_pick (hr.mono (by decide)) (by rfl) (passes_call (takes_of rfl rfl rfl rfl) fun _ _ _ _ z => z) (va_cons (vv 1 (pv 1)) (va_cons v_int va_nil))))))))
        vs_nil)
      (vs_cons (v_set _ (ps_set (i := 5) sc_law.nd rfl (Or.inl rfl) (v_call le (pe_callP C_law_no_thing (hr.mono (by decide)) (by rfl) (passes_call (takes_of rfl rfl rfl rfl) fun _ _ _ _ z => z) (va_cons (vv 1 (pv 1)) (va_cons (v_frz (vv 2 (pv 2))) va_nil))))))
      (vs_cons (v_set _ (ps_set (i := 6) sc_law.nd rfl (Or.inl rfl) (v_cb up_reprW (pe_callB (call_repr hg hr.units) (by rfl) T.n.n_repr (by decide +kernel) (va_cons (v_lst (va_cons (vv 4 (pv 4)) (va_cons (vv 5 (pv 5)) va_nil))) va_nil)))))
      (vs_cons (v_forR (ps_for (passes_of rfl) rfl (pi_range1 (by rfl) T.n.n_range (va_cons v_int va_nil)) (vg_name (pg_name (i := 7) sc_law.nd rfl (Or.inl rfl)))
        (vs_one (v_for (ps_for (passes_of rfl) rfl (pi_seq (v_lst (va_cons (vv 2 (pv 2)) (va_cons (vv 4 (pv 4)) va_nil)))) (vg_name (pg_name (i := 8) sc_law.nd rfl (Or.inl rfl)))
          (vs_cons (v_set _ (ps_set (i := 9) sc_law.nd rfl (Or.inl rfl) (v_call le (pe_callP C_law_tried_thing (hr.mono (by decide)) (by rfl) (passes_call (takes_of rfl rfl rfl rfl) fun _ _ _ _ z => z) (va_cons (vv 7 (pv 7)) (va_cons (vv 5 (pv 5)) (va_cons (vv 8 (pv 8)) va_nil)))))))
          (vs_one (v_if (PW.pt (vw_or (vt_cmp (o_neSame hr.units) (vv 9 (pv 9)) (v_tup (va_cons v_str (va_cons (vv 5 (pv 5)) va_nil)))) (vw_or1 (vt_cmp o_ne (v_cb up_reprW (pe_callB (call_repr hg hr.units) (by rfl) T.n.n_repr (by decide +kernel) (va_cons (vv 9 (pv 9)) va_nil))) (v_cb up_reprW (pe_callB (call_repr hg hr.units) (by rfl) T.n.n_repr (by decide +kernel) (va_cons (v_tup (va_cons v_str (va_cons (vv 5 (pv 5)) va_nil))) va_nil)))))))
            (vs_one (v_ret v_bl))
            vs_nil))))))))
      (vs_cons (v_forR (ps_for (passes_of rfl) rfl (pi_range1 (by rfl) T.n.n_range (va_cons v_int va_nil)) (vg_name (pg_name (i := 7) sc_law.nd rfl (Or.inl rfl)))
        (vs_one (v_if (PW.pt (vw_or (vt_cmp (o_neSame hr.units) (v_call le (pe_callP C_law_tried (hr.mono (by decide)) (by rfl) (passes_call (takes_of rfl rfl rfl rfl) fun _ _ _ _ z => z) (va_cons (vv 7 (pv 7)) (va_cons (v_frz (vv 4 (pv 4))) va_nil)))) (v_tup (va_cons v_str (va_cons (vv 4 (pv 4)) va_nil)))) (vw_or1 (vt_cmp o_ne (v_cb up_reprW (pe_callB (call_repr hg hr.units) (by rfl) T.n.n_repr (by decide +kernel) (va_cons (v_call le (pe_callP C_law_tried (hr.mono (by decide)) (by rfl) (passes_call (takes_of rfl rfl rfl rfl) fun _ _ _ _ z => z) (va_cons (vv 7 (pv 7)) (va_cons (v_frz (vv 4 (pv 4))) va_nil)))) va_nil))) (v_cb up_reprW (pe_callB (call_repr hg hr.units) (by rfl) T.n.n_repr (by decide +kernel) (va_cons (v_tup (va_cons v_str (va_cons (vv 4 (pv 4)) va_nil))) va_nil)))))))
          (vs_one (v_ret v_bl))
          vs_nil))))
      (vs_cons (v_set _ (ps_set (i := 10) sc_law.nd rfl (Or.inl rfl) (v_lst (va_cons (v_cb up_tuple (pe_callTy call_tuple_of (by rfl) T.n.n_tuple (by decide +kernel) (va_cons (vv 2 (pv 2)) va_nil))) (va_cons v_str (va_cons (v_cb up_tuple (pe_callTy call_tuple_of (by rfl) T.n.n_tuple (by decide +kernel) (va_cons (vv 2 (pv 2)) va_nil))) (va_cons (v_cb up_tuple (pe_callTy call_tuple_of (by rfl) T.n.n_tuple (by decide +kernel) (va_cons (vv 2 (pv 2)) va_nil))) (va_cons (v_tup va_nil) va_nil))))))))
      (vs_cons (v_forR (ps_for (passes_of rfl) rfl (pi_range1 (by rfl) T.n.n_range (va_cons v_int va_nil)) (vg_name (pg_name (i := 7) sc_law.nd rfl (Or.inl rfl)))
        (vs_one (v_if (PW.pt (vw_or (vt_cmp (o_neD hr.units) (v_call le (pe_callP C_law_tried (hr.mono (by decide)) (by rfl) (passes_call (takes_of rfl rfl rfl rfl) fun _ _ _ _ z => z) (va_cons (vv 7 (pv 7)) (va_cons (v_frz (vv 2 (pv 2))) va_nil)))) (v_tup (va_cons v_str (va_cons (v_ixI (vv 10 (pv 10)) (vv 7 (pv 7))) va_nil)))) (vw_or1 (vt_cmp (o_neD hr.units) (v_call le (pe_callP C_law_tried (hr.mono (by decide)) (by rfl) (passes_call (takes_of rfl rfl rfl rfl) fun _ _ _ _ z => z) (va_cons (vv 7 (pv 7)) (va_cons (v_cb up_tuple (pe_callTy call_tuple_of (by rfl) T.n.n_tuple (by decide +kernel) (va_cons (vv 2 (pv 2)) va_nil))) va_nil)))) (v_tup (va_cons v_str (va_cons (v_ixI (vv 10 (pv 10)) (vv 7 (pv 7))) va_nil)))))))
          (vs_one (v_ret v_bl))
          vs_nil))))
      (vs_one (v_ret (v_cmp o_eq (v_cb up_reprW (pe_callB (call_repr hg hr.units) (by rfl) T.n.n_repr (by decide +kernel) (va_cons (v_lst (va_cons (vv 4 (pv 4)) (va_cons (vv 5 (pv 5)) va_nil))) va_nil))) (vv 6 (pv 6))))))))))))))))),
    [], _, ⟨fun _ => False, fun w _ => w = .dat (.bl true), fun _ => False, fun _ => False⟩, rel0 (N := ["script", "tape", "good", "place", "bad", "scrap", "kept", "kind", "row", "found", "told"]) (ws := [.dat (.con (.ref sc))]) ⟨rfl, .nil, (fun _ z => nomatch z), fun k ob z => by simp at z⟩ (.cons (.con _) .nil), ?_, fun _ _ _ _ z => z.elim, fun w δ' O' σ' v H' e _ _ r => ?_, fun _ _ _ _ z => z.elim, fun _ _ _ _ z => z.elim⟩
  rotate_left
  · subst e
    cases r
    exact q H'
  walk_at "go"
  intro T0 hT
  have ht0 : TapeIn [some (Ob.lst T0)] 0 := ⟨T0, rfl, hT⟩
  walk_at "go"
  intro n S1 hn g1 l1
  have t1 := g1.tape
  have hn0 := hn.1
  have hn1 := hn.2
  walk_at "go"
  intro g S2 hg g2 l2 e2
  obtain ⟨hgl, hs⟩ := hg
  have t2 := g2.tape
  have t2l := t2.lt
  have l1' : S1.length = 1 := l1
  walk_at "go"
  intro pl S3 hpl g3 l3
  have t3 := g3.tape.lt
  walk_at "go"
  intro od S4 ho g4 l4
  have t4 := g4.tape.lt
  walk_at "go"
  have G2 : Gr 0 [some (Ob.lst T0)] S2 := g1.trans g2
  have n2 := G2.ln
  have G3 : Gr 0 [some (Ob.lst T0)] S3 := by
    refine Gr.trans ?_ g3
    (repeat' (first | assumption | refine Gr.push ?_ _ | refine Gr.set ?_ ?_ (Nat.succ_pos _) _ | (simp only [List.length_set, List.length_append, List.length_cons, List.length_nil]; omega)))
  have n3 := G3.ln
  have G4 : Gr 0 [some (Ob.lst T0)] S4 := by
    refine Gr.trans ?_ g4
    (repeat' (first | assumption | refine Gr.push ?_ _ | refine Gr.set ?_ ?_ (Nat.succ_pos _) _ | (simp only [List.length_set, List.length_append, List.length_cons, List.length_nil]; omega)))
  have n4 := G4.ln
  have sg : ∀ d ∈ g.map D.int, Sm 400 3 d := fun d hd => by
    obtain ⟨x, hx, rfl⟩ := List.mem_map.mp hd
    exact (Sm.sgn (hs x hx)).le (by decide) (by decide)
  have big : ∀ (b : Bool) (ds : List D), (∀ d ∈ ds, Sm 400 3 d) → ds.length ≤ 9 → Sm 6000 4 (sq b ds) := fun b ds h l => Sm.sq (m := 9) h l (by decide)
  obtain ⟨m3, rfl⟩ := Int.eq_ofNat_of_zero_le hpl.1
  rw [cutD_to]
  refine ⟨Nat.le_trans (m := 20) (by simp only [List.length_append, List.length_take, List.length_drop, List.length_cons, List.length_nil, List.length_map]; omega) (by decide), ?_⟩
  walk_at "go"
  rw [cutD_from]
  refine ⟨Nat.le_trans (m := 20) (by simp only [List.length_append, List.length_take, List.length_drop, List.length_cons, List.length_nil, List.length_map]; omega) (by decide), ?_⟩
  walk_at "go"
  refine ⟨fun δ => ∃ (b : Bool) (ds : List D) (S : Own), δ = ⟨[some (.dat (.con (.ref sc))), some (.own 0), some (.dat (.lst (g.map D.int))), some (.dat (.int (m3 : Nat))), some (.dat (sq b ds)), none, none, none, none, none, none], S⟩ ∧ TapeIn S 0 ∧ Bad12 (sq b ds), ?_, ?_⟩
  · have bd : ∀ b, Bad12 (sq b (List.take m3 (g.map D.int) ++ [od] ++ List.drop m3 (g.map D.int))) := fun b => by
      have len : (List.take m3 (g.map D.int) ++ [od] ++ List.drop m3 (g.map D.int)).length ≤ 9 := by
        simp only [List.length_append, List.length_take, List.length_drop, List.length_cons, List.length_nil, List.length_map]; omega
      refine ⟨big b _ (fun d hd => ?_) len, row_odd (x := od) (List.mem_append_left _ (List.mem_append_right _ (List.mem_singleton.mpr rfl))) ho.n, by rw [items_sq]; omega⟩
      rcases List.mem_append.mp hd with hd | hd
      · rcases List.mem_append.mp hd with hd | hd
        · exact sg d (List.mem_of_mem_take hd)
        · rw [List.mem_singleton.mp hd]
          exact ho.s
      · exact sg d (List.mem_of_mem_drop hd)
    walk_at "go"
    intro y S5 hy g5 l5
    walk_at "go"
    refine ite2 (fun _ => ?_) (fun _ => ?_)
    · walk_at "go"
      exact ⟨false, _, _, rfl, g5.tape, bd false⟩
    · exact ⟨true, _, _, rfl, g5.tape, bd true⟩
  rintro _ ⟨b, ds, S5, rfl, t5, B5⟩
  refine ⟨fun δ => ∃ (d : D) (S : Own), δ = ⟨[some (.dat (.con (.ref sc))), some (.own 0), some (.dat (.lst (g.map D.int))), some (.dat (.int (m3 : Nat))), some (.dat d), none, none, none, none, none, none], S⟩ ∧ TapeIn S 0 ∧ Bad12 d, ?_, ?_⟩
  · walk_at "go"
    intro y S6 hy g6 l6
    have t6l := g6.tape.lt
    walk_at "go"
    refine ite2 (fun _ => ?_) (fun _ => ?_)
    · walk_at "go"
      intro ad
      walk_at "go"
      intro c S7 hc g7 l7
      have t7 := g7.tape
      walk_at "go"
      have i7 : Sm 46 0 (.int 7) := Sm.sgn ⟨by decide, by decide⟩
      have i0 : Sm 46 0 (.int 0) := Sm.sgn ⟨by decide, by decide⟩
      have hc0 := hc.1
      have hc1 := hc.2
      rw [rdIxI_eq]
      have hcc : c = 0 ∨ c = 1 ∨ c = 2 ∨ c = 3 ∨ c = 4 ∨ c = 5 ∨ c = 6 := by omega
      rcases hcc with rfl | rfl | rfl | rfl | rfl | rfl | rfl
      · exact ⟨_, rfl, .inl ⟨_, .non, .inl rfl, rfl, _, _, rfl, t7, ⟨Sm.non.le (by decide) (by decide), rfl, by decide⟩⟩⟩
      · exact ⟨_, rfl, .inl ⟨_, .bl true, .inl rfl, rfl, _, _, rfl, t7, ⟨(Sm.bl true).le (by decide) (by decide), rfl, by decide⟩⟩⟩
      · exact ⟨_, rfl, .inl ⟨_, .int 7, .inl rfl, rfl, _, _, rfl, t7, ⟨i7.le (by decide) (by decide), rfl, by decide⟩⟩⟩
      · exact ⟨_, rfl, .inl ⟨_, .str "12", .inl rfl, rfl, _, _, rfl, t7, ⟨(Sm.str (by decide +kernel)).le (by decide) (by decide), rfl, Nat.zero_le _⟩⟩⟩
      · exact ⟨_, rfl, .inl ⟨_, .dic ad, .inl rfl, rfl, _, _, rfl, t7, ⟨(Sm.dic ad).le (by decide) (by decide), by rw [py]; rfl, by rw [py]; exact Nat.zero_le _⟩⟩⟩
      · exact ⟨_, rfl, .inl ⟨_, .str "", .inl rfl, rfl, _, _, rfl, t7, ⟨(Sm.str (by decide +kernel)).le (by decide) (by decide), rfl, Nat.zero_le _⟩⟩⟩
      · exact ⟨_, rfl, .inl ⟨_, .int 0, .inl rfl, rfl, _, _, rfl, t7, ⟨i0.le (by decide) (by decide), rfl, by decide⟩⟩⟩
    · exact ⟨_, _, rfl, g6.tape, B5⟩
  rintro _ ⟨bad, S6, rfl, t6, B6⟩
  walk_at "go"
  intro scrap S7 hsc g7 l7
  have t7 := g7.tape
  walk_at "go"
  have P2 : Sm 13000 5 (.lst [bad, scrap]) := (Sm.lst (n := 6000) (k := 4) (ds := [bad, scrap]) (fun d hd => by rcases List.mem_cons.mp hd with rfl | hd; exact B6.s; rw [List.mem_singleton.mp hd]; exact hsc.s)).le (show 3 + 2 * (6000 + 2) ≤ 13000 by decide) (by decide)
  have P3 : Sm 13000 5 (.tup [.str "thing", scrap]) := sm_told (Sm.str (by decide +kernel)) hsc.s
  have P4 : Sm 13000 5 (.tup [.str "row", bad]) := sm_told (Sm.str (by decide +kernel)) B6.s
  refine ⟨P2.p, P2.f.show', Nat.le_trans P2.f.len (by decide), Nat.le_trans P2.f.dep (by decide), ?_⟩
  walk_at "go"
  refine ⟨fun i δ => ∃ (y7 y8 y9 : Option W) (S : Own), δ = ⟨[some (.dat (.con (.ref sc))), some (.own 0), some (.dat (.lst (g.map D.int))), some (.dat (.int (m3 : Nat))), some (.dat bad), some (.dat scrap), some (.dat (.str (py (.lst [bad, scrap])).shown)), y7, y8, y9, none], S⟩ ∧ 0 < S.length, ⟨_, _, _, _, rfl, by simp only [List.length_append, List.length_cons, List.length_nil]; omega⟩, ?_, ?_⟩
  · rintro i _ hi ⟨y7, y8, y9, S, rfl, hS⟩
    simp only [Int.zero_add]
    walk_at "go"
    refine ⟨fun j δ => ∃ (y8 y9 : Option W) (S : Own), δ = ⟨[some (.dat (.con (.ref sc))), some (.own 0), some (.dat (.lst (g.map D.int))), some (.dat (.int (m3 : Nat))), some (.dat bad), some (.dat scrap), some (.dat (.str (py (.lst [bad, scrap])).shown)), some (.dat (.int (i : Nat))), y8, y9, none], S⟩ ∧ 0 < S.length, ⟨_, _, _, rfl, by simp only [List.length_set, List.length_append, List.length_cons, List.length_nil]; omega⟩, ?_, ?_⟩
    · rintro j d _ hd ⟨y8, y9, S, rfl, hS⟩
      have pd : puW d = true := by
        rcases List.mem_cons.mp (List.mem_of_getElem? hd) with rfl | hd
        · exact (big true _ sg (by rw [List.length_map]; omega)).p
        · rw [List.mem_singleton.mp hd]
          exact B6.s.p
      have hi2 : i < 2 := hi
      walk_at "go"
      refine ⟨hsc.s.p, pd, hsc.n, ?_⟩
      walk_at "go"
      refine ⟨(P3.same (by decide)).1, (P3.same (by decide)).2, ?_⟩
      walk_at "go"
      refine ⟨P3.p, P3.f.show', Nat.le_trans P3.f.len (by decide), Nat.le_trans P3.f.dep (by decide), ?_⟩
      walk_at "go"
      refine ⟨P3.p, P3.f.show', Nat.le_trans P3.f.len (by decide), Nat.le_trans P3.f.dep (by decide), ?_⟩
      walk_at "go"
      refine ifF (nb_f (eqS_strs _)) ?_
      exact ⟨_, _, _, rfl, hS⟩
    rintro _ ⟨y8, y9, S, rfl, hS⟩
    exact ⟨_, _, _, _, rfl, hS⟩
  rintro _ ⟨y7, y8, y9, S, rfl, hS⟩

  walk_at "go"
  refine ⟨fun i δ => ∃ (y7 : Option W) (S : Own), δ = ⟨[some (.dat (.con (.ref sc))), some (.own 0), some (.dat (.lst (g.map D.int))), some (.dat (.int (m3 : Nat))), some (.dat bad), some (.dat scrap), some (.dat (.str (py (.lst [bad, scrap])).shown)), y7, y8, y9, none], S⟩ ∧ 0 < S.length, ⟨_, _, rfl, hS⟩, ?_, ?_⟩
  · rintro i _ hi ⟨y7, S, rfl, hS⟩
    simp only [Int.zero_add]
    walk_at "go"
    refine ⟨B6.s.p, B6.l, fun _ => ?_, fun e => absurd (e.symm.trans B6.n) (by decide)⟩
    walk_at "go"
    refine ⟨(P4.same (by decide)).1, (P4.same (by decide)).2, ?_⟩
    walk_at "go"
    refine ⟨B6.s.p, B6.l, fun _ => ?_, fun e => absurd (e.symm.trans B6.n) (by decide)⟩
    walk_at "go"
    refine ⟨P4.p, P4.f.show', Nat.le_trans P4.f.len (by decide), Nat.le_trans P4.f.dep (by decide), ?_⟩
    walk_at "go"
    refine ⟨P4.p, P4.f.show', Nat.le_trans P4.f.len (by decide), Nat.le_trans P4.f.dep (by decide), ?_⟩
    walk_at "go"
    refine ifF (nb_f (eqS_strs _)) ?_
    exact ⟨_, _, rfl, hS⟩
  rintro _ ⟨y7, S, rfl, hS⟩
  walk_at "go"
  have z0 : told12 ((0 : Nat) : Int) g = .tup (g.map D.int) := rfl
  have z1 : told12 ((1 : Nat) : Int) g = .str "start " := rfl
  have z2 : told12 ((2 : Nat) : Int) g = .tup (g.map D.int) := rfl
  have z3 : told12 ((3 : Nat) : Int) g = .tup (g.map D.int) := rfl
  have z4 : told12 ((4 : Nat) : Int) g = .tup [] := rfl
  have sT : ∀ x : D, Sh 1 x → Sh 2 (.tup [.str "told", x]) := fun x hx => Sh.tup fun d hd => by
    rcases List.mem_cons.mp hd with rfl | hd
    · exact (Sh.str (by decide +kernel)).le (by decide)
    · rw [List.mem_singleton.mp hd]
      exact hx
  have s0 := sT (.tup (g.map D.int)) (sh_iv g)
  have s1 := sT (.str "start ") ((Sh.str (by decide +kernel)).le (by decide))
  have s4 := sT (.tup []) (sh_iv [])
  have pg : ∀ b : Bool, puW (sq b (g.map D.int)) = true ∧ (dItems (py (sq b (g.map D.int)))).length ≤ 1000 ∧ dRow (py (sq b (g.map D.int))) = true := fun b => by
    refine ⟨(big b _ sg (by rw [List.length_map]; omega)).p, by rw [items_sq, List.length_map]; omega, ?_⟩
    cases b
    · show dRow (py (.tup (g.map D.int))) = true
      rw [py, pys_mapW, List.map_map, show (py ∘ D.int) = PyData.int from funext fun i => by show py (.int i) = _; rw [py]]
      exact dRow_tup hs
    · show dRow (py (.lst (g.map D.int))) = true
      rw [py, pys_mapW, List.map_map, show (py ∘ D.int) = PyData.int from funext fun i => by show py (.int i) = _; rw [py]]
      exact dRow_lst hs
  refine ⟨fun i δ => ∃ (y7 : Option W), δ = ⟨[some (.dat (.con (.ref sc))), some (.own 0), some (.dat (.lst (g.map D.int))), some (.dat (.int (m3 : Nat))), some (.dat bad), some (.dat scrap), some (.dat (.str (py (.lst [bad, scrap])).shown)), y7, y8, y9, some (.own S.length)], S ++ [some (.lst [.tup (g.map D.int), .str "start ", .tup (g.map D.int), .tup (g.map D.int), .tup []])]⟩, ⟨_, rfl⟩, ?_, ?_⟩
  · rintro i _ hi ⟨y7, rfl⟩
    simp only [Int.zero_add]
    have hi5 : i < 5 := hi
    have hcs : i = 0 ∨ i = 1 ∨ i = 2 ∨ i = 3 ∨ i = 4 := by omega
    rcases hcs with rfl | rfl | rfl | rfl | rfl
    all_goals
      walk_at "go"
      refine ⟨(pg true).1, (pg true).2.1, fun e => absurd (e.symm.trans (pg true).2.2) (by decide), fun _ => ⟨true, g, rfl, hs, by omega, ?_⟩⟩
      walk_at "go"
      first | rw [z0] | rw [z1] | rw [z2] | rw [z3] | rw [z4]
      first
      | refine ⟨s0.sh (by decide), s0.sh (by decide), _, rfl, ifF s0.ne ?_⟩
      | refine ⟨s1.sh (by decide), s1.sh (by decide), _, rfl, ifF s1.ne ?_⟩
      | refine ⟨s4.sh (by decide), s4.sh (by decide), _, rfl, ifF s4.ne ?_⟩
      walk_at "go"
      refine ⟨(pg false).1, (pg false).2.1, fun e => absurd (e.symm.trans (pg false).2.2) (by decide), fun _ => ⟨false, g, rfl, hs, by omega, ?_⟩⟩
      walk_at "go"
      first | rw [z0] | rw [z1] | rw [z2] | rw [z3] | rw [z4]
      first
      | refine ⟨s0.sh (by decide), s0.sh (by decide), _, rfl, ifF s0.ne ?_⟩
      | refine ⟨s1.sh (by decide), s1.sh (by decide), _, rfl, ifF s1.ne ?_⟩
      | refine ⟨s4.sh (by decide), s4.sh (by decide), _, rfl, ifF s4.ne ?_⟩
      exact ⟨_, rfl⟩
  rintro _ ⟨y7, rfl⟩
  walk_at "go"
  refine ⟨P2.p, P2.f.show', Nat.le_trans P2.f.len (by decide), Nat.le_trans P2.f.dep (by decide), ?_⟩
  walk_at "go"
  rw [eqS_strs]

end
abbrev s_init : Stmt := inClass (top 2) 0
theorem sc_init : FnScope ["self", "value"] ["self", "value"] (defScope s_init) := ⟨rfl, rfl, rfl, by decide +kernel, rfl, by decide +kernel, by decide +kernel⟩
section
variable {P : Program} {w : World} {K : PySem.W.Frag} {mg : Str → Option Value} {base : Heap}
theorem ok_init {f : Addr} {fd : FuncData} (F : Fun K "__init__" "MadeError.__init__" s_init f fd) : FnOk P w K mg base (L2.CX P w) 1 f fd ["self", "value"] (spInit K) := by
  refine F.okX sc_init (fun vs H Q E h => ?_) (fun cdv A outer s H vs Q E hr h => ⟨_, (pss_one (ps_ost (pv 0) (pv 1))), ?_⟩)
  · obtain ⟨a, C, v, rfl, _⟩ := h
    rfl
  · obtain ⟨a, C, v, rfl, oC, vC, ha, q⟩ := h
    exact ⟨_, rfl, _, rfl, a, C, rfl, oC, vC, .inl ⟨ha, fun dx nx ne => q dx nx ne⟩⟩
end
abbrev s_init_TooLong : Stmt := inClass (top 7) 0
theorem sc_init_TooLong : FnScope ["self"] ["self"] (defScope s_init_TooLong) := ⟨rfl, rfl, rfl, by decide +kernel, rfl, by decide +kernel, by decide +kernel⟩
theorem ok_init_TooLong {P : Program} {w : World} {K : PySem.W.Frag} {mg : Str → Option Value} {base : Heap} {f fI M : Addr} {fd fdI : FuncData} (F : Fun K "__init__" "TooLong.__init__" s_init_TooLong f fd) (r : ClX.CRead K M (.type "type"))
    (at_ : PySem.W.findCls K (.ref M) (.type "type") "__init__" = some (.val (.ref fI))) (F1 : FnOk P w K mg base (L2.CX P w) 1 fI fdI ["self", "value"] (spInit K)) (hk : PySem.W.keepIn K (.ref fI) = true) (hb : Binds K fdI ["self", "value"] []) (hm : mg "MadeError" = some (.ref M)) :
    FnOk P w K mg base (L2.CX P w) 2 f fd ["self"] (spInit0 K) := by
  refine F.okX sc_init_TooLong (fun vs H Q E h => ?_) (fun cdv A outer s H vs Q E hr h => ⟨_,
      (pss_one (ps_expr (pe_clsfn (E := fun _ _ _ => False) r at_ F1 (hr.mono (by decide)) hk hb (passes_call (takes_of rfl rfl rfl rfl) fun _ _ _ _ z => z.elim) (by rfl) hm (pa_cons (pv 0) (pa_cons pe_non pa_nil))))), ?_⟩)
  · obtain ⟨a, C, rfl, _⟩ := h
    rfl
  · obtain ⟨a, C, rfl, oC, vC, ha, q⟩ := h
    exact ⟨_, rfl, a, C, .non, rfl, oC, vC, ha, fun dx nx ne => q dx nx ne⟩
abbrev s_init_Finished : Stmt := inClass (top 8) 0
theorem sc_init_Finished : FnScope ["self"] ["self"] (defScope s_init_Finished) := ⟨rfl, rfl, rfl, by decide +kernel, rfl, by decide +kernel, by decide +kernel⟩
theorem ok_init_Finished {P : Program} {w : World} {K : PySem.W.Frag} {mg : Str → Option Value} {base : Heap} {f fI M : Addr} {fd fdI : FuncData} (F : Fun K "__init__" "Finished.__init__" s_init_Finished f fd) (r : ClX.CRead K M (.type "type"))
    (at_ : PySem.W.findCls K (.ref M) (.type "type") "__init__" = some (.val (.ref fI))) (F1 : FnOk P w K mg base (L2.CX P w) 1 fI fdI ["self", "value"] (spInit K)) (hk : PySem.W.keepIn K (.ref fI) = true) (hb : Binds K fdI ["self", "value"] []) (hm : mg "MadeError" = some (.ref M)) :
    FnOk P w K mg base (L2.CX P w) 2 f fd ["self"] (spInit0 K) := by
  refine F.okX sc_init_Finished (fun vs H Q E h => ?_) (fun cdv A outer s H vs Q E hr h => ⟨_,
      (pss_one (ps_expr (pe_clsfn (E := fun _ _ _ => False) r at_ F1 (hr.mono (by decide)) hk hb (passes_call (takes_of rfl rfl rfl rfl) fun _ _ _ _ z => z.elim) (by rfl) hm (pa_cons (pv 0) (pa_cons pe_non pa_nil))))), ?_⟩)
  · obtain ⟨a, C, rfl, _⟩ := h
    rfl
  · obtain ⟨a, C, rfl, oC, vC, ha, q⟩ := h
    exact ⟨_, rfl, a, C, .non, rfl, oC, vC, ha, fun dx nx ne => q dx nx ne⟩
theorem all_mk {l : PySem.W.OpenLaw} {w : World} {K : PySem.W.Frag} {h : Heap} {mg : Str → Option Value} {fa : Addr} (X : K.In h) (G : h.Ns mainGlobals mg) (hfa : mg "law" = some (.ref fa))
    {C_MadeError : Addr} {nm_MadeError : _} {q_MadeError : _} {N_MadeError : _} {bs_MadeError : _} {bm_MadeError : _} {sn_MadeError : _} {sub_MadeError : _} {ab_MadeError : _} {col_MadeError : _} {dd_MadeError : _} {k0_MadeError : _} {k1_MadeError : _} {k2_MadeError : _} {k3_MadeError : _} {k5_MadeError : _}
    (a_MadeError : PySem.W.nsIn K mainGlobals "MadeError" = some (some (.ref C_MadeError)))
    (l_MadeError : K.lookup C_MadeError = some (excClassObj nm_MadeError q_MadeError C_MadeError N_MadeError bs_MadeError bm_MadeError true sn_MadeError sub_MadeError ab_MadeError col_MadeError dd_MadeError k0_MadeError k1_MadeError k2_MadeError k3_MadeError k5_MadeError "ValueError.__new__"))
    (r_MadeError : PySem.HandSPX.refsVE bm_MadeError = true)
    (sa_MadeError : PySem.W.findIn K (.ref C_MadeError) "__setattr__" = some (some (.builtin "object.__setattr__")))
    (ex_MadeError : PySem.W.subIn K (.ref C_MadeError) (.type "BaseException") = some true)
    (ty_MadeError : PySem.W.typeIn K (.ref C_MadeError) = some (.type "type"))
    (k_MadeError : PySem.W.keepIn K (.ref C_MadeError) = true)
    {f_init : Addr}
    (i_MadeError : PySem.W.findIn K (.ref C_MadeError) "__init__" = some (some (.ref f_init)))
    {oc_init kV_init dc_init pm_init cd_init ct_init : Value} {od_init an_init : Option Addr} {sl_init : Array (Option Value)}
    (l_init : K.lookup f_init = some ⟨oc_init, od_init, .func (PySem.W.fnOf "__init__" "MadeError.__init__" (defArgs s_init) (defBody s_init) (defScope s_init) .none kV_init dc_init pm_init an_init cd_init ct_init), sl_init⟩)
    (c_init : PySem.W.codeIn K cd_init "MadeError.__init__" = true) (k_init : PySem.W.keepIn K (.ref f_init) = true)
    (t_init : PySem.W.typeIn K (.ref f_init) = some (.type "function"))
    (v_MadeError : PySem.W.findIn K (.ref C_MadeError) "value" = some none)
    {C_BadRow : Addr} {nm_BadRow : _} {q_BadRow : _} {N_BadRow : _} {bs_BadRow : _} {bm_BadRow : _} {sn_BadRow : _} {sub_BadRow : _} {ab_BadRow : _} {col_BadRow : _} {dd_BadRow : _} {k0_BadRow : _} {k1_BadRow : _} {k2_BadRow : _} {k3_BadRow : _} {k5_BadRow : _}
    (a_BadRow : PySem.W.nsIn K mainGlobals "BadRow" = some (some (.ref C_BadRow)))
    (l_BadRow : K.lookup C_BadRow = some (excClassObj nm_BadRow q_BadRow C_BadRow N_BadRow bs_BadRow bm_BadRow true sn_BadRow sub_BadRow ab_BadRow col_BadRow dd_BadRow k0_BadRow k1_BadRow k2_BadRow k3_BadRow k5_BadRow "ValueError.__new__"))
    (r_BadRow : PySem.HandSPX.refsVE bm_BadRow = true)
    (sa_BadRow : PySem.W.findIn K (.ref C_BadRow) "__setattr__" = some (some (.builtin "object.__setattr__")))
    (ex_BadRow : PySem.W.subIn K (.ref C_BadRow) (.type "BaseException") = some true)
    (ty_BadRow : PySem.W.typeIn K (.ref C_BadRow) = some (.type "type"))
    (k_BadRow : PySem.W.keepIn K (.ref C_BadRow) = true)
    (i_BadRow : PySem.W.findIn K (.ref C_BadRow) "__init__" = some (some (.ref f_init)))
    (v_BadRow : PySem.W.findIn K (.ref C_BadRow) "value" = some none)
    {C_BadThing : Addr} {nm_BadThing : _} {q_BadThing : _} {N_BadThing : _} {bs_BadThing : _} {bm_BadThing : _} {sn_BadThing : _} {sub_BadThing : _} {ab_BadThing : _} {col_BadThing : _} {dd_BadThing : _} {k0_BadThing : _} {k1_BadThing : _} {k2_BadThing : _} {k3_BadThing : _} {k5_BadThing : _}
    (a_BadThing : PySem.W.nsIn K mainGlobals "BadThing" = some (some (.ref C_BadThing)))
    (l_BadThing : K.lookup C_BadThing = some (excClassObj nm_BadThing q_BadThing C_BadThing N_BadThing bs_BadThing bm_BadThing true sn_BadThing sub_BadThing ab_BadThing col_BadThing dd_BadThing k0_BadThing k1_BadThing k2_BadThing k3_BadThing k5_BadThing "ValueError.__new__"))
    (r_BadThing : PySem.HandSPX.refsVE bm_BadThing = true)
    (sa_BadThing : PySem.W.findIn K (.ref C_BadThing) "__setattr__" = some (some (.builtin "object.__setattr__")))
    (ex_BadThing : PySem.W.subIn K (.ref C_BadThing) (.type "BaseException") = some true)
    (ty_BadThing : PySem.W.typeIn K (.ref C_BadThing) = some (.type "type"))
    (k_BadThing : PySem.W.keepIn K (.ref C_BadThing) = true)
    (i_BadThing : PySem.W.findIn K (.ref C_BadThing) "__init__" = some (some (.ref f_init)))
    (v_BadThing : PySem.W.findIn K (.ref C_BadThing) "value" = some none)
    {C_BadForm : Addr} {nm_BadForm : _} {q_BadForm : _} {N_BadForm : _} {bs_BadForm : _} {bm_BadForm : _} {sn_BadForm : _} {sub_BadForm : _} {ab_BadForm : _} {col_BadForm : _} {dd_BadForm : _} {k0_BadForm : _} {k1_BadForm : _} {k2_BadForm : _} {k3_BadForm : _} {k5_BadForm : _}
    (a_BadForm : PySem.W.nsIn K mainGlobals "BadForm" = some (some (.ref C_BadForm)))
    (l_BadForm : K.lookup C_BadForm = some (excClassObj nm_BadForm q_BadForm C_BadForm N_BadForm bs_BadForm bm_BadForm true sn_BadForm sub_BadForm ab_BadForm col_BadForm dd_BadForm k0_BadForm k1_BadForm k2_BadForm k3_BadForm k5_BadForm "ValueError.__new__"))
    (r_BadForm : PySem.HandSPX.refsVE bm_BadForm = true)
    (sa_BadForm : PySem.W.findIn K (.ref C_BadForm) "__setattr__" = some (some (.builtin "object.__setattr__")))
    (ex_BadForm : PySem.W.subIn K (.ref C_BadForm) (.type "BaseException") = some true)
    (ty_BadForm : PySem.W.typeIn K (.ref C_BadForm) = some (.type "type"))
    (k_BadForm : PySem.W.keepIn K (.ref C_BadForm) = true)
    (i_BadForm : PySem.W.findIn K (.ref C_BadForm) "__init__" = some (some (.ref f_init)))
    (v_BadForm : PySem.W.findIn K (.ref C_BadForm) "value" = some none)
    {C_BadSign : Addr} {nm_BadSign : _} {q_BadSign : _} {N_BadSign : _} {bs_BadSign : _} {bm_BadSign : _} {sn_BadSign : _} {sub_BadSign : _} {ab_BadSign : _} {col_BadSign : _} {dd_BadSign : _} {k0_BadSign : _} {k1_BadSign : _} {k2_BadSign : _} {k3_BadSign : _} {k5_BadSign : _}
    (a_BadSign : PySem.W.nsIn K mainGlobals "BadSign" = some (some (.ref C_BadSign)))
    (l_BadSign : K.lookup C_BadSign = some (excClassObj nm_BadSign q_BadSign C_BadSign N_BadSign bs_BadSign bm_BadSign true sn_BadSign sub_BadSign ab_BadSign col_BadSign dd_BadSign k0_BadSign k1_BadSign k2_BadSign k3_BadSign k5_BadSign "ValueError.__new__"))
    (r_BadSign : PySem.HandSPX.refsVE bm_BadSign = true)
    (sa_BadSign : PySem.W.findIn K (.ref C_BadSign) "__setattr__" = some (some (.builtin "object.__setattr__")))
    (ex_BadSign : PySem.W.subIn K (.ref C_BadSign) (.type "BaseException") = some true)
    (ty_BadSign : PySem.W.typeIn K (.ref C_BadSign) = some (.type "type"))
    (k_BadSign : PySem.W.keepIn K (.ref C_BadSign) = true)
    (i_BadSign : PySem.W.findIn K (.ref C_BadSign) "__init__" = some (some (.ref f_init)))
    (v_BadSign : PySem.W.findIn K (.ref C_BadSign) "value" = some none)
    {C_TooLong : Addr} {nm_TooLong : _} {q_TooLong : _} {N_TooLong : _} {bs_TooLong : _} {bm_TooLong : _} {sn_TooLong : _} {sub_TooLong : _} {ab_TooLong : _} {col_TooLong : _} {dd_TooLong : _} {k0_TooLong : _} {k1_TooLong : _} {k2_TooLong : _} {k3_TooLong : _} {k5_TooLong : _}
    (a_TooLong : PySem.W.nsIn K mainGlobals "TooLong" = some (some (.ref C_TooLong)))
    (l_TooLong : K.lookup C_TooLong = some (excClassObj nm_TooLong q_TooLong C_TooLong N_TooLong bs_TooLong bm_TooLong true sn_TooLong sub_TooLong ab_TooLong col_TooLong dd_TooLong k0_TooLong k1_TooLong k2_TooLong k3_TooLong k5_TooLong "ValueError.__new__"))
    (r_TooLong : PySem.HandSPX.refsVE bm_TooLong = true)
    (sa_TooLong : PySem.W.findIn K (.ref C_TooLong) "__setattr__" = some (some (.builtin "object.__setattr__")))
    (ex_TooLong : PySem.W.subIn K (.ref C_TooLong) (.type "BaseException") = some true)
    (ty_TooLong : PySem.W.typeIn K (.ref C_TooLong) = some (.type "type"))
    (k_TooLong : PySem.W.keepIn K (.ref C_TooLong) = true)
    {f_init_TooLong : Addr}
    (i_TooLong : PySem.W.findIn K (.ref C_TooLong) "__init__" = some (some (.ref f_init_TooLong)))
    {oc_init_TooLong kV_init_TooLong dc_init_TooLong pm_init_TooLong cd_init_TooLong ct_init_TooLong : Value} {od_init_TooLong an_init_TooLong : Option Addr} {sl_init_TooLong : Array (Option Value)}
    (l_init_TooLong : K.lookup f_init_TooLong = some ⟨oc_init_TooLong, od_init_TooLong, .func (PySem.W.fnOf "__init__" "TooLong.__init__" (defArgs s_init_TooLong) (defBody s_init_TooLong) (defScope s_init_TooLong) .none kV_init_TooLong dc_init_TooLong pm_init_TooLong an_init_TooLong cd_init_TooLong ct_init_TooLong), sl_init_TooLong⟩)
    (c_init_TooLong : PySem.W.codeIn K cd_init_TooLong "TooLong.__init__" = true) (k_init_TooLong : PySem.W.keepIn K (.ref f_init_TooLong) = true)
    (t_init_TooLong : PySem.W.typeIn K (.ref f_init_TooLong) = some (.type "function"))
    (v_TooLong : PySem.W.findIn K (.ref C_TooLong) "value" = some none)
    {C_Finished : Addr} {nm_Finished : _} {q_Finished : _} {N_Finished : _} {bs_Finished : _} {bm_Finished : _} {sn_Finished : _} {sub_Finished : _} {ab_Finished : _} {col_Finished : _} {dd_Finished : _} {k0_Finished : _} {k1_Finished : _} {k2_Finished : _} {k3_Finished : _} {k5_Finished : _}
    (a_Finished : PySem.W.nsIn K mainGlobals "Finished" = some (some (.ref C_Finished)))
    (l_Finished : K.lookup C_Finished = some (excClassObj nm_Finished q_Finished C_Finished N_Finished bs_Finished bm_Finished true sn_Finished sub_Finished ab_Finished col_Finished dd_Finished k0_Finished k1_Finished k2_Finished k3_Finished k5_Finished "ValueError.__new__"))
    (r_Finished : PySem.HandSPX.refsVE bm_Finished = true)
    (sa_Finished : PySem.W.findIn K (.ref C_Finished) "__setattr__" = some (some (.builtin "object.__setattr__")))
    (ex_Finished : PySem.W.subIn K (.ref C_Finished) (.type "BaseException") = some true)
    (ty_Finished : PySem.W.typeIn K (.ref C_Finished) = some (.type "type"))
    (k_Finished : PySem.W.keepIn K (.ref C_Finished) = true)
    {f_init_Finished : Addr}
    (i_Finished : PySem.W.findIn K (.ref C_Finished) "__init__" = some (some (.ref f_init_Finished)))
    {oc_init_Finished kV_init_Finished dc_init_Finished pm_init_Finished cd_init_Finished ct_init_Finished : Value} {od_init_Finished an_init_Finished : Option Addr} {sl_init_Finished : Array (Option Value)}
    (l_init_Finished : K.lookup f_init_Finished = some ⟨oc_init_Finished, od_init_Finished, .func (PySem.W.fnOf "__init__" "Finished.__init__" (defArgs s_init_Finished) (defBody s_init_Finished) (defScope s_init_Finished) .none kV_init_Finished dc_init_Finished pm_init_Finished an_init_Finished cd_init_Finished ct_init_Finished), sl_init_Finished⟩)
    (c_init_Finished : PySem.W.codeIn K cd_init_Finished "Finished.__init__" = true) (k_init_Finished : PySem.W.keepIn K (.ref f_init_Finished) = true)
    (t_init_Finished : PySem.W.typeIn K (.ref f_init_Finished) = some (.type "function"))
    (v_Finished : PySem.W.findIn K (.ref C_Finished) "value" = some none)
    {C_NothingDone : Addr} {nm_NothingDone : _} {q_NothingDone : _} {N_NothingDone : _} {bs_NothingDone : _} {bm_NothingDone : _} {sn_NothingDone : _} {sub_NothingDone : _} {ab_NothingDone : _} {col_NothingDone : _} {dd_NothingDone : _} {k0_NothingDone : _} {k1_NothingDone : _} {k2_NothingDone : _} {k3_NothingDone : _} {k5_NothingDone : _}
    (a_NothingDone : PySem.W.nsIn K mainGlobals "NothingDone" = some (some (.ref C_NothingDone)))
    (l_NothingDone : K.lookup C_NothingDone = some (excClassObj nm_NothingDone q_NothingDone C_NothingDone N_NothingDone bs_NothingDone bm_NothingDone true sn_NothingDone sub_NothingDone ab_NothingDone col_NothingDone dd_NothingDone k0_NothingDone k1_NothingDone k2_NothingDone k3_NothingDone k5_NothingDone "ValueError.__new__"))
    (r_NothingDone : PySem.HandSPX.refsVE bm_NothingDone = true)
    (sa_NothingDone : PySem.W.findIn K (.ref C_NothingDone) "__setattr__" = some (some (.builtin "object.__setattr__")))
    (ex_NothingDone : PySem.W.subIn K (.ref C_NothingDone) (.type "BaseException") = some true)
    (ty_NothingDone : PySem.W.typeIn K (.ref C_NothingDone) = some (.type "type"))
    (k_NothingDone : PySem.W.keepIn K (.ref C_NothingDone) = true)
    {f_init_NothingDone : Addr}
    (i_NothingDone : PySem.W.findIn K (.ref C_NothingDone) "__init__" = some (some (.ref f_init_NothingDone)))
    (v_NothingDone : PySem.W.findIn K (.ref C_NothingDone) "value" = some none)
    (rd : PySem.W.readsIn K C_MadeError (.type "type") = true)
    (sg : PySem.W.specialIn K (.ref C_MadeError) "__getattribute__" = some (some (.builtin "type.__getattribute__")))
    (fc : PySem.W.findCls K (.ref C_MadeError) (.type "type") "__init__" = some (.val (.ref f_init)))
    {A_Rules : Addr}
    (a_Rules : PySem.W.nsIn K mainGlobals "Rules" = some (some (.ref A_Rules)))
    (pg_Rules : PySem.W.plainGet K A_Rules Str.empty = true)
    (hd_Rules : PySem.W.hasDictIn K A_Rules = true)
    (po_Rules : PySem.W.plainOver K A_Rules = true)
    (sa_Rules : PySem.W.findIn K (.ref A_Rules) "__setattr__" = some (some (.builtin "object.__setattr__")))
    (hc_Rules : PySem.W.findIn K (.ref A_Rules) "__class__" = some (some (.builtin "object.__class__")))
    (hn_Rules : PySem.W.specialIn K (.builtin "object.__class__") "__get__" = some (some (.builtin "getset_descriptor.__get__")))
    (ht_Rules : PySem.W.takesIn K (.builtin "object.__class__") = some true)
    (hm_Rules : PySem.W.mroIn K A_Rules (.type "object") = some true)
    (kt_Rules : PySem.W.kitOne K (.ref A_Rules) (.ref A_Rules) = some true)
    (n_Rules_body : PySem.W.findIn K (.ref A_Rules) "body" = some none)
    (n_Rules_start : PySem.W.findIn K (.ref A_Rules) "start" = some none)
    (n_Rules_rules : PySem.W.findIn K (.ref A_Rules) "rules" = some none)
    (n_Rules_tail : PySem.W.findIn K (.ref A_Rules) "tail" = some none)
    (mk_Rules : PySem.W.makesIn K A_Rules = true)
    (k_Rules : PySem.W.keepIn K (.ref A_Rules) = true)
    {f_Rules_init : Addr}
    (i_Rules_init : PySem.W.findIn K (.ref A_Rules) "__init__" = some (some (.ref f_Rules_init)))
    (t_Rules_init : PySem.W.isFn K (.ref f_Rules_init) = true)
    {oc_Rules_init kV_Rules_init dc_Rules_init pm_Rules_init cd_Rules_init ct_Rules_init : Value} {od_Rules_init an_Rules_init : Option Addr} {sl_Rules_init : Array (Option Value)}
    (l_Rules_init : K.lookup f_Rules_init = some ⟨oc_Rules_init, od_Rules_init, .func (PySem.W.fnOf "__init__" "Rules.__init__" (defArgs s_Rules_init) (defBody s_Rules_init) (defScope s_Rules_init) .none kV_Rules_init dc_Rules_init pm_Rules_init an_Rules_init cd_Rules_init ct_Rules_init), sl_Rules_init⟩)
    (c_Rules_init : PySem.W.codeIn K cd_Rules_init "Rules.__init__" = true) (k_Rules_init : PySem.W.keepIn K (.ref f_Rules_init) = true)
    {A_Program : Addr}
    (a_Program : PySem.W.nsIn K mainGlobals "Program" = some (some (.ref A_Program)))
    (pg_Program : PySem.W.plainGet K A_Program Str.empty = true)
    (hd_Program : PySem.W.hasDictIn K A_Program = true)
    (po_Program : PySem.W.plainOver K A_Program = true)
    (sa_Program : PySem.W.findIn K (.ref A_Program) "__setattr__" = some (some (.builtin "object.__setattr__")))
    (hc_Program : PySem.W.findIn K (.ref A_Program) "__class__" = some (some (.builtin "object.__class__")))
    (hn_Program : PySem.W.specialIn K (.builtin "object.__class__") "__get__" = some (some (.builtin "getset_descriptor.__get__")))
    (ht_Program : PySem.W.takesIn K (.builtin "object.__class__") = some true)
    (hm_Program : PySem.W.mroIn K A_Program (.type "object") = some true)
    (kt_Program : PySem.W.kitOne K (.ref A_Program) (.ref A_Program) = some true)
    (n_Program_body : PySem.W.findIn K (.ref A_Program) "body" = some none)
    (n_Program_start : PySem.W.findIn K (.ref A_Program) "start" = some none)
    (n_Program_taken : PySem.W.findIn K (.ref A_Program) "taken" = some none)
    (mk_Program : PySem.W.makesIn K A_Program = true)
    (k_Program : PySem.W.keepIn K (.ref A_Program) = true)
    {f_Program_init : Addr}
    (i_Program_init : PySem.W.findIn K (.ref A_Program) "__init__" = some (some (.ref f_Program_init)))
    (t_Program_init : PySem.W.isFn K (.ref f_Program_init) = true)
    {oc_Program_init kV_Program_init dc_Program_init pm_Program_init cd_Program_init ct_Program_init : Value} {od_Program_init an_Program_init : Option Addr} {sl_Program_init : Array (Option Value)}
    (l_Program_init : K.lookup f_Program_init = some ⟨oc_Program_init, od_Program_init, .func (PySem.W.fnOf "__init__" "Program.__init__" (defArgs s_Program_init) (defBody s_Program_init) (defScope s_Program_init) .none kV_Program_init dc_Program_init pm_Program_init an_Program_init cd_Program_init ct_Program_init), sl_Program_init⟩)
    (c_Program_init : PySem.W.codeIn K cd_Program_init "Program.__init__" = true) (k_Program_init : PySem.W.keepIn K (.ref f_Program_init) = true)
    {f_Program_rule_for : Addr}
    (i_Program_rule_for : PySem.W.findIn K (.ref A_Program) "rule_for" = some (some (.ref f_Program_rule_for)))
    (t_Program_rule_for : PySem.W.isFn K (.ref f_Program_rule_for) = true)
    {oc_Program_rule_for kV_Program_rule_for dc_Program_rule_for pm_Program_rule_for cd_Program_rule_for ct_Program_rule_for : Value} {od_Program_rule_for an_Program_rule_for : Option Addr} {sl_Program_rule_for : Array (Option Value)}
    (l_Program_rule_for : K.lookup f_Program_rule_for = some ⟨oc_Program_rule_for, od_Program_rule_for, .func (PySem.W.fnOf "rule_for" "Program.rule_for" (defArgs s_Program_rule_for) (defBody s_Program_rule_for) (defScope s_Program_rule_for) .none kV_Program_rule_for dc_Program_rule_for pm_Program_rule_for an_Program_rule_for cd_Program_rule_for ct_Program_rule_for), sl_Program_rule_for⟩)
    (c_Program_rule_for : PySem.W.codeIn K cd_Program_rule_for "Program.rule_for" = true) (k_Program_rule_for : PySem.W.keepIn K (.ref f_Program_rule_for) = true)
    {f_Program_rule_at_end : Addr}
    (i_Program_rule_at_end : PySem.W.findIn K (.ref A_Program) "rule_at_end" = some (some (.ref f_Program_rule_at_end)))
    (t_Program_rule_at_end : PySem.W.isFn K (.ref f_Program_rule_at_end) = true)
    {oc_Program_rule_at_end kV_Program_rule_at_end dc_Program_rule_at_end pm_Program_rule_at_end cd_Program_rule_at_end ct_Program_rule_at_end : Value} {od_Program_rule_at_end an_Program_rule_at_end : Option Addr} {sl_Program_rule_at_end : Array (Option Value)}
    (l_Program_rule_at_end : K.lookup f_Program_rule_at_end = some ⟨oc_Program_rule_at_end, od_Program_rule_at_end, .func (PySem.W.fnOf "rule_at_end" "Program.rule_at_end" (defArgs s_Program_rule_at_end) (defBody s_Program_rule_at_end) (defScope s_Program_rule_at_end) .none kV_Program_rule_at_end dc_Program_rule_at_end pm_Program_rule_at_end an_Program_rule_at_end cd_Program_rule_at_end ct_Program_rule_at_end), sl_Program_rule_at_end⟩)
    (c_Program_rule_at_end : PySem.W.codeIn K cd_Program_rule_at_end "Program.rule_at_end" = true) (k_Program_rule_at_end : PySem.W.keepIn K (.ref f_Program_rule_at_end) = true)
    {A_Machine : Addr}
    (a_Machine : PySem.W.nsIn K mainGlobals "Machine" = some (some (.ref A_Machine)))
    (pg_Machine : PySem.W.plainGet K A_Machine Str.empty = true)
    (hd_Machine : PySem.W.hasDictIn K A_Machine = true)
    (po_Machine : PySem.W.plainOver K A_Machine = true)
    (sa_Machine : PySem.W.findIn K (.ref A_Machine) "__setattr__" = some (some (.builtin "object.__setattr__")))
    (hc_Machine : PySem.W.findIn K (.ref A_Machine) "__class__" = some (some (.builtin "object.__class__")))
    (hn_Machine : PySem.W.specialIn K (.builtin "object.__class__") "__get__" = some (some (.builtin "getset_descriptor.__get__")))
    (ht_Machine : PySem.W.takesIn K (.builtin "object.__class__") = some true)
    (hm_Machine : PySem.W.mroIn K A_Machine (.type "object") = some true)
    (kt_Machine : PySem.W.kitOne K (.ref A_Machine) (.ref A_Machine) = some true)
    (n_Machine__thing : PySem.W.findIn K (.ref A_Machine) "_thing" = some none)
    (n_Machine__row : PySem.W.findIn K (.ref A_Machine) "_row" = some none)
    (n_Machine__program : PySem.W.findIn K (.ref A_Machine) "_program" = some none)
    (n_Machine__at : PySem.W.findIn K (.ref A_Machine) "_at" = some none)
    (n_Machine__stand : PySem.W.findIn K (.ref A_Machine) "_stand" = some none)
    (n_Machine__over : PySem.W.findIn K (.ref A_Machine) "_over" = some none)
    (n_Machine__written : PySem.W.findIn K (.ref A_Machine) "_written" = some none)
    (n_Machine__past : PySem.W.findIn K (.ref A_Machine) "_past" = some none)
    (mk_Machine : PySem.W.makesIn K A_Machine = true)
    (k_Machine : PySem.W.keepIn K (.ref A_Machine) = true)
    {f_Machine_write : Addr}
    (i_Machine_write : PySem.W.findIn K (.ref A_Machine) "_write" = some (some (.ref f_Machine_write)))
    (t_Machine_write : PySem.W.isFn K (.ref f_Machine_write) = true)
    {oc_Machine_write kV_Machine_write dc_Machine_write pm_Machine_write cd_Machine_write ct_Machine_write : Value} {od_Machine_write an_Machine_write : Option Addr} {sl_Machine_write : Array (Option Value)}
    (l_Machine_write : K.lookup f_Machine_write = some ⟨oc_Machine_write, od_Machine_write, .func (PySem.W.fnOf "_write" "Machine._write" (defArgs s_Machine_write) (defBody s_Machine_write) (defScope s_Machine_write) .none kV_Machine_write dc_Machine_write pm_Machine_write an_Machine_write cd_Machine_write ct_Machine_write), sl_Machine_write⟩)
    (c_Machine_write : PySem.W.codeIn K cd_Machine_write "Machine._write" = true) (k_Machine_write : PySem.W.keepIn K (.ref f_Machine_write) = true)
    {f_Machine_read : Addr}
    (i_Machine_read : PySem.W.findIn K (.ref A_Machine) "_read" = some (some (.ref f_Machine_read)))
    (t_Machine_read : PySem.W.isFn K (.ref f_Machine_read) = true)
    {oc_Machine_read kV_Machine_read dc_Machine_read pm_Machine_read cd_Machine_read ct_Machine_read : Value} {od_Machine_read an_Machine_read : Option Addr} {sl_Machine_read : Array (Option Value)}
    (l_Machine_read : K.lookup f_Machine_read = some ⟨oc_Machine_read, od_Machine_read, .func (PySem.W.fnOf "_read" "Machine._read" (defArgs s_Machine_read) (defBody s_Machine_read) (defScope s_Machine_read) .none kV_Machine_read dc_Machine_read pm_Machine_read an_Machine_read cd_Machine_read ct_Machine_read), sl_Machine_read⟩)
    (c_Machine_read : PySem.W.codeIn K cd_Machine_read "Machine._read" = true) (k_Machine_read : PySem.W.keepIn K (.ref f_Machine_read) = true)
    {f_Machine_step : Addr}
    (i_Machine_step : PySem.W.findIn K (.ref A_Machine) "step" = some (some (.ref f_Machine_step)))
    (t_Machine_step : PySem.W.isFn K (.ref f_Machine_step) = true)
    {oc_Machine_step kV_Machine_step dc_Machine_step pm_Machine_step cd_Machine_step ct_Machine_step : Value} {od_Machine_step an_Machine_step : Option Addr} {sl_Machine_step : Array (Option Value)}
    (l_Machine_step : K.lookup f_Machine_step = some ⟨oc_Machine_step, od_Machine_step, .func (PySem.W.fnOf "step" "Machine.step" (defArgs s_Machine_step) (defBody s_Machine_step) (defScope s_Machine_step) .none kV_Machine_step dc_Machine_step pm_Machine_step an_Machine_step cd_Machine_step ct_Machine_step), sl_Machine_step⟩)
    (c_Machine_step : PySem.W.codeIn K cd_Machine_step "Machine.step" = true) (k_Machine_step : PySem.W.keepIn K (.ref f_Machine_step) = true)
    {f_Machine_go : Addr}
    (i_Machine_go : PySem.W.findIn K (.ref A_Machine) "go" = some (some (.ref f_Machine_go)))
    (t_Machine_go : PySem.W.isFn K (.ref f_Machine_go) = true)
    {oc_Machine_go kV_Machine_go dc_Machine_go pm_Machine_go cd_Machine_go ct_Machine_go : Value} {od_Machine_go an_Machine_go : Option Addr} {sl_Machine_go : Array (Option Value)}
    (l_Machine_go : K.lookup f_Machine_go = some ⟨oc_Machine_go, od_Machine_go, .func (PySem.W.fnOf "go" "Machine.go" (defArgs s_Machine_go) (defBody s_Machine_go) (defScope s_Machine_go) .none kV_Machine_go dc_Machine_go pm_Machine_go an_Machine_go cd_Machine_go ct_Machine_go), sl_Machine_go⟩)
    (c_Machine_go : PySem.W.codeIn K cd_Machine_go "Machine.go" = true) (k_Machine_go : PySem.W.keepIn K (.ref f_Machine_go) = true)
    {f_Machine_init : Addr}
    (i_Machine_init : PySem.W.findIn K (.ref A_Machine) "__init__" = some (some (.ref f_Machine_init)))
    (t_Machine_init : PySem.W.isFn K (.ref f_Machine_init) = true)
    {oc_Machine_init kV_Machine_init dc_Machine_init pm_Machine_init cd_Machine_init ct_Machine_init : Value} {od_Machine_init an_Machine_init : Option Addr} {sl_Machine_init : Array (Option Value)}
    (l_Machine_init : K.lookup f_Machine_init = some ⟨oc_Machine_init, od_Machine_init, .func (PySem.W.fnOf "__init__" "Machine.__init__" (defArgs s_Machine_init) (defBody s_Machine_init) (defScope s_Machine_init) .none kV_Machine_init dc_Machine_init pm_Machine_init an_Machine_init cd_Machine_init ct_Machine_init), sl_Machine_init⟩)
    (c_Machine_init : PySem.W.codeIn K cd_Machine_init "Machine.__init__" = true) (k_Machine_init : PySem.W.keepIn K (.ref f_Machine_init) = true)
    {f_Machine_row : Addr}
    {p_Machine_row : Addr} {rest_Machine_row : List Value}
    (i_Machine_row : PySem.W.findIn K (.ref A_Machine) "row" = some (some (.ref p_Machine_row)))
    (pg_Machine_row : PySem.W.specialIn K (.ref p_Machine_row) "__get__" = some (some (.builtin "property.__get__")))
    (pt_Machine_row : PySem.W.takesIn K (.ref p_Machine_row) = some true)
    (pr_Machine_row : PySem.W.recIn K p_Machine_row "property" = some (.ref f_Machine_row :: rest_Machine_row))
    {oc_Machine_row kV_Machine_row dc_Machine_row pm_Machine_row cd_Machine_row ct_Machine_row : Value} {od_Machine_row an_Machine_row : Option Addr} {sl_Machine_row : Array (Option Value)}
    (l_Machine_row : K.lookup f_Machine_row = some ⟨oc_Machine_row, od_Machine_row, .func (PySem.W.fnOf "row" "Machine.row" (defArgs s_Machine_row) (defBody s_Machine_row) (defScope s_Machine_row) .none kV_Machine_row dc_Machine_row pm_Machine_row an_Machine_row cd_Machine_row ct_Machine_row), sl_Machine_row⟩)
    (c_Machine_row : PySem.W.codeIn K cd_Machine_row "Machine.row" = true) (k_Machine_row : PySem.W.keepIn K (.ref f_Machine_row) = true)
    {t_SIGNS : _}
    (n_SIGNS : PySem.W.nsIn K mainGlobals "SIGNS" = some (some (.int 100 t_SIGNS)))
    {t_FORMS : _}
    (n_FORMS : PySem.W.nsIn K mainGlobals "FORMS" = some (some (.int 5 t_FORMS)))
    {t_SHIFT : _}
    (n_SHIFT : PySem.W.nsIn K mainGlobals "SHIFT" = some (some (.int 20 t_SHIFT)))
    {t_MOST_WRITTEN : _}
    (n_MOST_WRITTEN : PySem.W.nsIn K mainGlobals "MOST_WRITTEN" = some (some (.int 20000 t_MOST_WRITTEN)))
    (hd_MadeError : PySem.W.hasDictIn K C_MadeError = true)
    (kt1_BadRow : PySem.W.kitOne K (.ref C_BadRow) (.ref C_BadRow) = some true)
    (kt2_BadRow : PySem.W.kitOne K (.ref C_BadRow) (.ref C_BadThing) = some false)
    (ga_BadRow : PySem.W.findIn K (.ref C_BadRow) "__getattribute__" = some (some (.builtin "BaseException.__getattribute__")))
    (gg_BadRow : PySem.W.findIn K (.ref C_BadRow) "__getattr__" = some none)
    (hd_BadRow : PySem.W.hasDictIn K C_BadRow = true)
    (cl_BadRow : PySem.W.isClsIn K C_BadRow = true)
    (hc_BadRow : PySem.W.findIn K (.ref C_BadRow) "__class__" = some (some (.builtin "object.__class__")))
    (hn_BadRow : PySem.W.specialIn K (.builtin "object.__class__") "__get__" = some (some (.builtin "getset_descriptor.__get__")))
    (ht_BadRow : PySem.W.takesIn K (.builtin "object.__class__") = some true)
    (hm_BadRow : PySem.W.mroIn K C_BadRow (.type "object") = some true)
    (sb_BadRow : PySem.W.subIn K (.ref C_BadRow) (.ref C_MadeError) = some true)
    (kt1_BadThing : PySem.W.kitOne K (.ref C_BadThing) (.ref C_BadThing) = some true)
    (kt2_BadThing : PySem.W.kitOne K (.ref C_BadThing) (.ref C_BadRow) = some false)
    (ga_BadThing : PySem.W.findIn K (.ref C_BadThing) "__getattribute__" = some (some (.builtin "BaseException.__getattribute__")))
    (gg_BadThing : PySem.W.findIn K (.ref C_BadThing) "__getattr__" = some none)
    (hd_BadThing : PySem.W.hasDictIn K C_BadThing = true)
    (cl_BadThing : PySem.W.isClsIn K C_BadThing = true)
    (hc_BadThing : PySem.W.findIn K (.ref C_BadThing) "__class__" = some (some (.builtin "object.__class__")))
    (hn_BadThing : PySem.W.specialIn K (.builtin "object.__class__") "__get__" = some (some (.builtin "getset_descriptor.__get__")))
    (ht_BadThing : PySem.W.takesIn K (.builtin "object.__class__") = some true)
    (hm_BadThing : PySem.W.mroIn K C_BadThing (.type "object") = some true)
    (sb_BadThing : PySem.W.subIn K (.ref C_BadThing) (.ref C_MadeError) = some true)
    (z_len : PySem.W.nsIn K mainGlobals "len" = some none)
    (z_int : PySem.W.nsIn K mainGlobals "int" = some none)
    (z_bool : PySem.W.nsIn K mainGlobals "bool" = some none)
    (z_str : PySem.W.nsIn K mainGlobals "str" = some none)
    (z_list : PySem.W.nsIn K mainGlobals "list" = some none)
    (z_tuple : PySem.W.nsIn K mainGlobals "tuple" = some none)
    (z_dict : PySem.W.nsIn K mainGlobals "dict" = some none)
    (z_range : PySem.W.nsIn K mainGlobals "range" = some none)
    (z_enumerate : PySem.W.nsIn K mainGlobals "enumerate" = some none)
    (z_isinstance : PySem.W.nsIn K mainGlobals "isinstance" = some none)
    (z_repr : PySem.W.nsIn K mainGlobals "repr" = some none)
    (z_ValueError : PySem.W.nsIn K mainGlobals "ValueError" = some none)
    {f_law_pick : Addr} {oc_law_pick kV_law_pick dc_law_pick pm_law_pick cd_law_pick ct_law_pick : Value} {od_law_pick an_law_pick : Option Addr} {sl_law_pick : Array (Option Value)}
    (a_law_pick : PySem.W.nsIn K mainGlobals "_law_pick" = some (some (.ref f_law_pick)))
    (l_law_pick : K.lookup f_law_pick = some ⟨oc_law_pick, od_law_pick, .func (PySem.W.fnOf "_law_pick" "_law_pick" (defArgs s_law_pick) (defBody s_law_pick) (defScope s_law_pick) .none kV_law_pick dc_law_pick pm_law_pick an_law_pick cd_law_pick ct_law_pick), sl_law_pick⟩)
    (c_law_pick : PySem.W.codeIn K cd_law_pick "_law_pick" = true) (k_law_pick : PySem.W.keepIn K (.ref f_law_pick) = true)
    {f_law_tape : Addr} {oc_law_tape kV_law_tape dc_law_tape pm_law_tape cd_law_tape ct_law_tape : Value} {od_law_tape an_law_tape : Option Addr} {sl_law_tape : Array (Option Value)}
    (a_law_tape : PySem.W.nsIn K mainGlobals "_law_tape" = some (some (.ref f_law_tape)))
    (l_law_tape : K.lookup f_law_tape = some ⟨oc_law_tape, od_law_tape, .func (PySem.W.fnOf "_law_tape" "_law_tape" (defArgs s_law_tape) (defBody s_law_tape) (defScope s_law_tape) .none kV_law_tape dc_law_tape pm_law_tape an_law_tape cd_law_tape ct_law_tape), sl_law_tape⟩)
    (c_law_tape : PySem.W.codeIn K cd_law_tape "_law_tape" = true) (k_law_tape : PySem.W.keepIn K (.ref f_law_tape) = true)
    {f_is_whole : Addr} {oc_is_whole kV_is_whole dc_is_whole pm_is_whole cd_is_whole ct_is_whole : Value} {od_is_whole an_is_whole : Option Addr} {sl_is_whole : Array (Option Value)}
    (a_is_whole : PySem.W.nsIn K mainGlobals "is_whole" = some (some (.ref f_is_whole)))
    (l_is_whole : K.lookup f_is_whole = some ⟨oc_is_whole, od_is_whole, .func (PySem.W.fnOf "is_whole" "is_whole" (defArgs s_is_whole) (defBody s_is_whole) (defScope s_is_whole) .none kV_is_whole dc_is_whole pm_is_whole an_is_whole cd_is_whole ct_is_whole), sl_is_whole⟩)
    (c_is_whole : PySem.W.codeIn K cd_is_whole "is_whole" = true) (k_is_whole : PySem.W.keepIn K (.ref f_is_whole) = true)
    {f_is_sign : Addr} {oc_is_sign kV_is_sign dc_is_sign pm_is_sign cd_is_sign ct_is_sign : Value} {od_is_sign an_is_sign : Option Addr} {sl_is_sign : Array (Option Value)}
    (a_is_sign : PySem.W.nsIn K mainGlobals "is_sign" = some (some (.ref f_is_sign)))
    (l_is_sign : K.lookup f_is_sign = some ⟨oc_is_sign, od_is_sign, .func (PySem.W.fnOf "is_sign" "is_sign" (defArgs s_is_sign) (defBody s_is_sign) (defScope s_is_sign) .none kV_is_sign dc_is_sign pm_is_sign an_is_sign cd_is_sign ct_is_sign), sl_is_sign⟩)
    (c_is_sign : PySem.W.codeIn K cd_is_sign "is_sign" = true) (k_is_sign : PySem.W.keepIn K (.ref f_is_sign) = true)
    {f_is_form : Addr} {oc_is_form kV_is_form dc_is_form pm_is_form cd_is_form ct_is_form : Value} {od_is_form an_is_form : Option Addr} {sl_is_form : Array (Option Value)}
    (a_is_form : PySem.W.nsIn K mainGlobals "is_form" = some (some (.ref f_is_form)))
    (l_is_form : K.lookup f_is_form = some ⟨oc_is_form, od_is_form, .func (PySem.W.fnOf "is_form" "is_form" (defArgs s_is_form) (defBody s_is_form) (defScope s_is_form) .none kV_is_form dc_is_form pm_is_form an_is_form cd_is_form ct_is_form), sl_is_form⟩)
    (c_is_form : PySem.W.codeIn K cd_is_form "is_form" = true) (k_is_form : PySem.W.keepIn K (.ref f_is_form) = true)
    {f_is_row : Addr} {oc_is_row kV_is_row dc_is_row pm_is_row cd_is_row ct_is_row : Value} {od_is_row an_is_row : Option Addr} {sl_is_row : Array (Option Value)}
    (a_is_row : PySem.W.nsIn K mainGlobals "is_row" = some (some (.ref f_is_row)))
    (l_is_row : K.lookup f_is_row = some ⟨oc_is_row, od_is_row, .func (PySem.W.fnOf "is_row" "is_row" (defArgs s_is_row) (defBody s_is_row) (defScope s_is_row) .none kV_is_row dc_is_row pm_is_row an_is_row cd_is_row ct_is_row), sl_is_row⟩)
    (c_is_row : PySem.W.codeIn K cd_is_row "is_row" = true) (k_is_row : PySem.W.keepIn K (.ref f_is_row) = true)
    {f_shifted : Addr} {oc_shifted kV_shifted dc_shifted pm_shifted cd_shifted ct_shifted : Value} {od_shifted an_shifted : Option Addr} {sl_shifted : Array (Option Value)}
    (a_shifted : PySem.W.nsIn K mainGlobals "shifted" = some (some (.ref f_shifted)))
    (l_shifted : K.lookup f_shifted = some ⟨oc_shifted, od_shifted, .func (PySem.W.fnOf "shifted" "shifted" (defArgs s_shifted) (defBody s_shifted) (defScope s_shifted) .none kV_shifted dc_shifted pm_shifted an_shifted cd_shifted ct_shifted), sl_shifted⟩)
    (c_shifted : PySem.W.codeIn K cd_shifted "shifted" = true) (k_shifted : PySem.W.keepIn K (.ref f_shifted) = true)
    {f_is_thing : Addr} {oc_is_thing kV_is_thing dc_is_thing pm_is_thing cd_is_thing ct_is_thing : Value} {od_is_thing an_is_thing : Option Addr} {sl_is_thing : Array (Option Value)}
    (a_is_thing : PySem.W.nsIn K mainGlobals "is_thing" = some (some (.ref f_is_thing)))
    (l_is_thing : K.lookup f_is_thing = some ⟨oc_is_thing, od_is_thing, .func (PySem.W.fnOf "is_thing" "is_thing" (defArgs s_is_thing) (defBody s_is_thing) (defScope s_is_thing) .none kV_is_thing dc_is_thing pm_is_thing an_is_thing cd_is_thing ct_is_thing), sl_is_thing⟩)
    (c_is_thing : PySem.W.codeIn K cd_is_thing "is_thing" = true) (k_is_thing : PySem.W.keepIn K (.ref f_is_thing) = true)
    {f_form_of : Addr} {oc_form_of kV_form_of dc_form_of pm_form_of cd_form_of ct_form_of : Value} {od_form_of an_form_of : Option Addr} {sl_form_of : Array (Option Value)}
    (a_form_of : PySem.W.nsIn K mainGlobals "form_of" = some (some (.ref f_form_of)))
    (l_form_of : K.lookup f_form_of = some ⟨oc_form_of, od_form_of, .func (PySem.W.fnOf "form_of" "form_of" (defArgs s_form_of) (defBody s_form_of) (defScope s_form_of) .none kV_form_of dc_form_of pm_form_of an_form_of cd_form_of ct_form_of), sl_form_of⟩)
    (c_form_of : PySem.W.codeIn K cd_form_of "form_of" = true) (k_form_of : PySem.W.keepIn K (.ref f_form_of) = true)
    {f_body_of : Addr} {oc_body_of kV_body_of dc_body_of pm_body_of cd_body_of ct_body_of : Value} {od_body_of an_body_of : Option Addr} {sl_body_of : Array (Option Value)}
    (a_body_of : PySem.W.nsIn K mainGlobals "body_of" = some (some (.ref f_body_of)))
    (l_body_of : K.lookup f_body_of = some ⟨oc_body_of, od_body_of, .func (PySem.W.fnOf "body_of" "body_of" (defArgs s_body_of) (defBody s_body_of) (defScope s_body_of) .none kV_body_of dc_body_of pm_body_of an_body_of cd_body_of ct_body_of), sl_body_of⟩)
    (c_body_of : PySem.W.codeIn K cd_body_of "body_of" = true) (k_body_of : PySem.W.keepIn K (.ref f_body_of) = true)
    {f_thing_of : Addr} {oc_thing_of kV_thing_of dc_thing_of pm_thing_of cd_thing_of ct_thing_of : Value} {od_thing_of an_thing_of : Option Addr} {sl_thing_of : Array (Option Value)}
    (a_thing_of : PySem.W.nsIn K mainGlobals "thing_of" = some (some (.ref f_thing_of)))
    (l_thing_of : K.lookup f_thing_of = some ⟨oc_thing_of, od_thing_of, .func (PySem.W.fnOf "thing_of" "thing_of" (defArgs s_thing_of) (defBody s_thing_of) (defScope s_thing_of) .none kV_thing_of dc_thing_of pm_thing_of an_thing_of cd_thing_of ct_thing_of), sl_thing_of⟩)
    (c_thing_of : PySem.W.codeIn K cd_thing_of "thing_of" = true) (k_thing_of : PySem.W.keepIn K (.ref f_thing_of) = true)
    {f_item_at : Addr} {oc_item_at kV_item_at dc_item_at pm_item_at cd_item_at ct_item_at : Value} {od_item_at an_item_at : Option Addr} {sl_item_at : Array (Option Value)}
    (a_item_at : PySem.W.nsIn K mainGlobals "item_at" = some (some (.ref f_item_at)))
    (l_item_at : K.lookup f_item_at = some ⟨oc_item_at, od_item_at, .func (PySem.W.fnOf "item_at" "item_at" (defArgs s_item_at) (defBody s_item_at) (defScope s_item_at) .none kV_item_at dc_item_at pm_item_at an_item_at cd_item_at ct_item_at), sl_item_at⟩)
    (c_item_at : PySem.W.codeIn K cd_item_at "item_at" = true) (k_item_at : PySem.W.keepIn K (.ref f_item_at) = true)
    {f_word_at : Addr} {oc_word_at kV_word_at dc_word_at pm_word_at cd_word_at ct_word_at : Value} {od_word_at an_word_at : Option Addr} {sl_word_at : Array (Option Value)}
    (a_word_at : PySem.W.nsIn K mainGlobals "word_at" = some (some (.ref f_word_at)))
    (l_word_at : K.lookup f_word_at = some ⟨oc_word_at, od_word_at, .func (PySem.W.fnOf "word_at" "word_at" (defArgs s_word_at) (defBody s_word_at) (defScope s_word_at) .none kV_word_at dc_word_at pm_word_at an_word_at cd_word_at ct_word_at), sl_word_at⟩)
    (c_word_at : PySem.W.codeIn K cd_word_at "word_at" = true) (k_word_at : PySem.W.keepIn K (.ref f_word_at) = true)
    {f_items_at : Addr} {oc_items_at kV_items_at dc_items_at pm_items_at cd_items_at ct_items_at : Value} {od_items_at an_items_at : Option Addr} {sl_items_at : Array (Option Value)}
    (a_items_at : PySem.W.nsIn K mainGlobals "items_at" = some (some (.ref f_items_at)))
    (l_items_at : K.lookup f_items_at = some ⟨oc_items_at, od_items_at, .func (PySem.W.fnOf "items_at" "items_at" (defArgs s_items_at) (defBody s_items_at) (defScope s_items_at) .none kV_items_at dc_items_at pm_items_at an_items_at cd_items_at ct_items_at), sl_items_at⟩)
    (c_items_at : PySem.W.codeIn K cd_items_at "items_at" = true) (k_items_at : PySem.W.keepIn K (.ref f_items_at) = true)
    {f_rule_at : Addr} {oc_rule_at kV_rule_at dc_rule_at pm_rule_at cd_rule_at ct_rule_at : Value} {od_rule_at an_rule_at : Option Addr} {sl_rule_at : Array (Option Value)}
    (a_rule_at : PySem.W.nsIn K mainGlobals "rule_at" = some (some (.ref f_rule_at)))
    (l_rule_at : K.lookup f_rule_at = some ⟨oc_rule_at, od_rule_at, .func (PySem.W.fnOf "rule_at" "rule_at" (defArgs s_rule_at) (defBody s_rule_at) (defScope s_rule_at) .none kV_rule_at dc_rule_at pm_rule_at an_rule_at cd_rule_at ct_rule_at), sl_rule_at⟩)
    (c_rule_at : PySem.W.codeIn K cd_rule_at "rule_at" = true) (k_rule_at : PySem.W.keepIn K (.ref f_rule_at) = true)
    {f_rules_and_tail : Addr} {oc_rules_and_tail kV_rules_and_tail dc_rules_and_tail pm_rules_and_tail cd_rules_and_tail ct_rules_and_tail : Value} {od_rules_and_tail an_rules_and_tail : Option Addr} {sl_rules_and_tail : Array (Option Value)}
    (a_rules_and_tail : PySem.W.nsIn K mainGlobals "rules_and_tail" = some (some (.ref f_rules_and_tail)))
    (l_rules_and_tail : K.lookup f_rules_and_tail = some ⟨oc_rules_and_tail, od_rules_and_tail, .func (PySem.W.fnOf "rules_and_tail" "rules_and_tail" (defArgs s_rules_and_tail) (defBody s_rules_and_tail) (defScope s_rules_and_tail) .none kV_rules_and_tail dc_rules_and_tail pm_rules_and_tail an_rules_and_tail cd_rules_and_tail ct_rules_and_tail), sl_rules_and_tail⟩)
    (c_rules_and_tail : PySem.W.codeIn K cd_rules_and_tail "rules_and_tail" = true) (k_rules_and_tail : PySem.W.keepIn K (.ref f_rules_and_tail) = true)
    {f_own_row : Addr} {oc_own_row kV_own_row dc_own_row pm_own_row cd_own_row ct_own_row : Value} {od_own_row an_own_row : Option Addr} {sl_own_row : Array (Option Value)}
    (a_own_row : PySem.W.nsIn K mainGlobals "own_row" = some (some (.ref f_own_row)))
    (l_own_row : K.lookup f_own_row = some ⟨oc_own_row, od_own_row, .func (PySem.W.fnOf "own_row" "own_row" (defArgs s_own_row) (defBody s_own_row) (defScope s_own_row) .none kV_own_row dc_own_row pm_own_row an_own_row cd_own_row ct_own_row), sl_own_row⟩)
    (c_own_row : PySem.W.codeIn K cd_own_row "own_row" = true) (k_own_row : PySem.W.keepIn K (.ref f_own_row) = true)
    {f_rule_size : Addr} {oc_rule_size kV_rule_size dc_rule_size pm_rule_size cd_rule_size ct_rule_size : Value} {od_rule_size an_rule_size : Option Addr} {sl_rule_size : Array (Option Value)}
    (a_rule_size : PySem.W.nsIn K mainGlobals "rule_size" = some (some (.ref f_rule_size)))
    (l_rule_size : K.lookup f_rule_size = some ⟨oc_rule_size, od_rule_size, .func (PySem.W.fnOf "rule_size" "rule_size" (defArgs s_rule_size) (defBody s_rule_size) (defScope s_rule_size) .none kV_rule_size dc_rule_size pm_rule_size an_rule_size cd_rule_size ct_rule_size), sl_rule_size⟩)
    (c_rule_size : PySem.W.codeIn K cd_rule_size "rule_size" = true) (k_rule_size : PySem.W.keepIn K (.ref f_rule_size) = true)
    {f_rule_signs : Addr} {oc_rule_signs kV_rule_signs dc_rule_signs pm_rule_signs cd_rule_signs ct_rule_signs : Value} {od_rule_signs an_rule_signs : Option Addr} {sl_rule_signs : Array (Option Value)}
    (a_rule_signs : PySem.W.nsIn K mainGlobals "rule_signs" = some (some (.ref f_rule_signs)))
    (l_rule_signs : K.lookup f_rule_signs = some ⟨oc_rule_signs, od_rule_signs, .func (PySem.W.fnOf "rule_signs" "rule_signs" (defArgs s_rule_signs) (defBody s_rule_signs) (defScope s_rule_signs) .none kV_rule_signs dc_rule_signs pm_rule_signs an_rule_signs cd_rule_signs ct_rule_signs), sl_rule_signs⟩)
    (c_rule_signs : PySem.W.codeIn K cd_rule_signs "rule_signs" = true) (k_rule_signs : PySem.W.keepIn K (.ref f_rule_signs) = true)
    {f_run : Addr} {oc_run kV_run dc_run pm_run cd_run ct_run : Value} {od_run an_run : Option Addr} {sl_run : Array (Option Value)}
    (a_run : PySem.W.nsIn K mainGlobals "run" = some (some (.ref f_run)))
    (l_run : K.lookup f_run = some ⟨oc_run, od_run, .func (PySem.W.fnOf "run" "run" (defArgs s_run) (defBody s_run) (defScope s_run) .none kV_run dc_run pm_run an_run cd_run ct_run), sl_run⟩)
    (c_run : PySem.W.codeIn K cd_run "run" = true) (k_run : PySem.W.keepIn K (.ref f_run) = true)
    {f_item_text : Addr} {oc_item_text kV_item_text dc_item_text pm_item_text cd_item_text ct_item_text : Value} {od_item_text an_item_text : Option Addr} {sl_item_text : Array (Option Value)}
    (a_item_text : PySem.W.nsIn K mainGlobals "item_text" = some (some (.ref f_item_text)))
    (l_item_text : K.lookup f_item_text = some ⟨oc_item_text, od_item_text, .func (PySem.W.fnOf "item_text" "item_text" (defArgs s_item_text) (defBody s_item_text) (defScope s_item_text) .none kV_item_text dc_item_text pm_item_text an_item_text cd_item_text ct_item_text), sl_item_text⟩)
    (c_item_text : PySem.W.codeIn K cd_item_text "item_text" = true) (k_item_text : PySem.W.keepIn K (.ref f_item_text) = true)
    {f_items_text : Addr} {oc_items_text kV_items_text dc_items_text pm_items_text cd_items_text ct_items_text : Value} {od_items_text an_items_text : Option Addr} {sl_items_text : Array (Option Value)}
    (a_items_text : PySem.W.nsIn K mainGlobals "items_text" = some (some (.ref f_items_text)))
    (l_items_text : K.lookup f_items_text = some ⟨oc_items_text, od_items_text, .func (PySem.W.fnOf "items_text" "items_text" (defArgs s_items_text) (defBody s_items_text) (defScope s_items_text) .none kV_items_text dc_items_text pm_items_text an_items_text cd_items_text ct_items_text), sl_items_text⟩)
    (c_items_text : PySem.W.codeIn K cd_items_text "items_text" = true) (k_items_text : PySem.W.keepIn K (.ref f_items_text) = true)
    {f_rule_text : Addr} {oc_rule_text kV_rule_text dc_rule_text pm_rule_text cd_rule_text ct_rule_text : Value} {od_rule_text an_rule_text : Option Addr} {sl_rule_text : Array (Option Value)}
    (a_rule_text : PySem.W.nsIn K mainGlobals "rule_text" = some (some (.ref f_rule_text)))
    (l_rule_text : K.lookup f_rule_text = some ⟨oc_rule_text, od_rule_text, .func (PySem.W.fnOf "rule_text" "rule_text" (defArgs s_rule_text) (defBody s_rule_text) (defScope s_rule_text) .none kV_rule_text dc_rule_text pm_rule_text an_rule_text cd_rule_text ct_rule_text), sl_rule_text⟩)
    (c_rule_text : PySem.W.codeIn K cd_rule_text "rule_text" = true) (k_rule_text : PySem.W.keepIn K (.ref f_rule_text) = true)
    {f_write_body : Addr} {oc_write_body kV_write_body dc_write_body pm_write_body cd_write_body ct_write_body : Value} {od_write_body an_write_body : Option Addr} {sl_write_body : Array (Option Value)}
    (a_write_body : PySem.W.nsIn K mainGlobals "write_body" = some (some (.ref f_write_body)))
    (l_write_body : K.lookup f_write_body = some ⟨oc_write_body, od_write_body, .func (PySem.W.fnOf "write_body" "write_body" (defArgs s_write_body) (defBody s_write_body) (defScope s_write_body) .none kV_write_body dc_write_body pm_write_body an_write_body cd_write_body ct_write_body), sl_write_body⟩)
    (c_write_body : PySem.W.codeIn K cd_write_body "write_body" = true) (k_write_body : PySem.W.keepIn K (.ref f_write_body) = true)
    {f_law_sign : Addr} {oc_law_sign kV_law_sign dc_law_sign pm_law_sign cd_law_sign ct_law_sign : Value} {od_law_sign an_law_sign : Option Addr} {sl_law_sign : Array (Option Value)}
    (a_law_sign : PySem.W.nsIn K mainGlobals "_law_sign" = some (some (.ref f_law_sign)))
    (l_law_sign : K.lookup f_law_sign = some ⟨oc_law_sign, od_law_sign, .func (PySem.W.fnOf "_law_sign" "_law_sign" (defArgs s_law_sign) (defBody s_law_sign) (defScope s_law_sign) .none kV_law_sign dc_law_sign pm_law_sign an_law_sign cd_law_sign ct_law_sign), sl_law_sign⟩)
    (c_law_sign : PySem.W.codeIn K cd_law_sign "_law_sign" = true) (k_law_sign : PySem.W.keepIn K (.ref f_law_sign) = true)
    {f_law_signs : Addr} {oc_law_signs kV_law_signs dc_law_signs pm_law_signs cd_law_signs ct_law_signs : Value} {od_law_signs an_law_signs : Option Addr} {sl_law_signs : Array (Option Value)}
    (a_law_signs : PySem.W.nsIn K mainGlobals "_law_signs" = some (some (.ref f_law_signs)))
    (l_law_signs : K.lookup f_law_signs = some ⟨oc_law_signs, od_law_signs, .func (PySem.W.fnOf "_law_signs" "_law_signs" (defArgs s_law_signs) (defBody s_law_signs) (defScope s_law_signs) .none kV_law_signs dc_law_signs pm_law_signs an_law_signs cd_law_signs ct_law_signs), sl_law_signs⟩)
    (c_law_signs : PySem.W.codeIn K cd_law_signs "_law_signs" = true) (k_law_signs : PySem.W.keepIn K (.ref f_law_signs) = true)
    {f_law_odd : Addr} {oc_law_odd kV_law_odd dc_law_odd pm_law_odd cd_law_odd ct_law_odd : Value} {od_law_odd an_law_odd : Option Addr} {sl_law_odd : Array (Option Value)}
    (a_law_odd : PySem.W.nsIn K mainGlobals "_law_odd" = some (some (.ref f_law_odd)))
    (l_law_odd : K.lookup f_law_odd = some ⟨oc_law_odd, od_law_odd, .func (PySem.W.fnOf "_law_odd" "_law_odd" (defArgs s_law_odd) (defBody s_law_odd) (defScope s_law_odd) .none kV_law_odd dc_law_odd pm_law_odd an_law_odd cd_law_odd ct_law_odd), sl_law_odd⟩)
    (c_law_odd : PySem.W.codeIn K cd_law_odd "_law_odd" = true) (k_law_odd : PySem.W.keepIn K (.ref f_law_odd) = true)
    {f_law_no_thing : Addr} {oc_law_no_thing kV_law_no_thing dc_law_no_thing pm_law_no_thing cd_law_no_thing ct_law_no_thing : Value} {od_law_no_thing an_law_no_thing : Option Addr} {sl_law_no_thing : Array (Option Value)}
    (a_law_no_thing : PySem.W.nsIn K mainGlobals "_law_no_thing" = some (some (.ref f_law_no_thing)))
    (l_law_no_thing : K.lookup f_law_no_thing = some ⟨oc_law_no_thing, od_law_no_thing, .func (PySem.W.fnOf "_law_no_thing" "_law_no_thing" (defArgs s_law_no_thing) (defBody s_law_no_thing) (defScope s_law_no_thing) .none kV_law_no_thing dc_law_no_thing pm_law_no_thing an_law_no_thing cd_law_no_thing ct_law_no_thing), sl_law_no_thing⟩)
    (c_law_no_thing : PySem.W.codeIn K cd_law_no_thing "_law_no_thing" = true) (k_law_no_thing : PySem.W.keepIn K (.ref f_law_no_thing) = true)
    {f_law_tried : Addr} {oc_law_tried kV_law_tried dc_law_tried pm_law_tried cd_law_tried ct_law_tried : Value} {od_law_tried an_law_tried : Option Addr} {sl_law_tried : Array (Option Value)}
    (a_law_tried : PySem.W.nsIn K mainGlobals "_law_tried" = some (some (.ref f_law_tried)))
    (l_law_tried : K.lookup f_law_tried = some ⟨oc_law_tried, od_law_tried, .func (PySem.W.fnOf "_law_tried" "_law_tried" (defArgs s_law_tried) (defBody s_law_tried) (defScope s_law_tried) .none kV_law_tried dc_law_tried pm_law_tried an_law_tried cd_law_tried ct_law_tried), sl_law_tried⟩)
    (c_law_tried : PySem.W.codeIn K cd_law_tried "_law_tried" = true) (k_law_tried : PySem.W.keepIn K (.ref f_law_tried) = true)
    {f_law_tried_thing : Addr} {oc_law_tried_thing kV_law_tried_thing dc_law_tried_thing pm_law_tried_thing cd_law_tried_thing ct_law_tried_thing : Value} {od_law_tried_thing an_law_tried_thing : Option Addr} {sl_law_tried_thing : Array (Option Value)}
    (a_law_tried_thing : PySem.W.nsIn K mainGlobals "_law_tried_thing" = some (some (.ref f_law_tried_thing)))
    (l_law_tried_thing : K.lookup f_law_tried_thing = some ⟨oc_law_tried_thing, od_law_tried_thing, .func (PySem.W.fnOf "_law_tried_thing" "_law_tried_thing" (defArgs s_law_tried_thing) (defBody s_law_tried_thing) (defScope s_law_tried_thing) .none kV_law_tried_thing dc_law_tried_thing pm_law_tried_thing an_law_tried_thing cd_law_tried_thing ct_law_tried_thing), sl_law_tried_thing⟩)
    (c_law_tried_thing : PySem.W.codeIn K cd_law_tried_thing "_law_tried_thing" = true) (k_law_tried_thing : PySem.W.keepIn K (.ref f_law_tried_thing) = true)
    {f_law : Addr} {oc_law kV_law dc_law pm_law cd_law ct_law : Value} {od_law an_law : Option Addr} {sl_law : Array (Option Value)}
    (a_law : PySem.W.nsIn K mainGlobals "law" = some (some (.ref f_law)))
    (l_law : K.lookup f_law = some ⟨oc_law, od_law, .func (PySem.W.fnOf "law" "law" (defArgs s_law) (defBody s_law) (defScope s_law) .none kV_law dc_law pm_law an_law cd_law ct_law), sl_law⟩)
    (c_law : PySem.W.codeIn K cd_law "law" = true) (k_law : PySem.W.keepIn K (.ref f_law) = true) :
    ∃ fd : FuncData, (∀ (s : Shared) (v : Value), BindsTo s fd ⟨[v], []⟩ [("script", v)]) ∧ ∀ base : Heap, K.In base → base.Ns mainGlobals mg → FnG l.prog w K mg base 14 fa fd ["script"] (spLaw K) := by
  have e := hfa.symm.trans (PySem.W.mg_of X G a_law)
  cases e
  have T : Tx K mg f_init f_init_TooLong f_init_Finished f_init_NothingDone C_MadeError C_BadRow C_BadThing C_BadForm C_BadSign C_TooLong C_Finished C_NothingDone A_Rules A_Program A_Machine := ⟨⟨PySem.W.mg_none_of X G z_len, PySem.W.mg_none_of X G z_int, PySem.W.mg_none_of X G z_bool, PySem.W.mg_none_of X G z_str, PySem.W.mg_none_of X G z_list, PySem.W.mg_none_of X G z_tuple, PySem.W.mg_none_of X G z_dict, PySem.W.mg_none_of X G z_range, PySem.W.mg_none_of X G z_enumerate, PySem.W.mg_none_of X G z_isinstance, PySem.W.mg_none_of X G z_repr, PySem.W.mg_none_of X G z_ValueError⟩, ⟨_, PySem.W.mg_of X G n_SIGNS⟩, ⟨_, PySem.W.mg_of X G n_FORMS⟩, ⟨_, PySem.W.mg_of X G n_SHIFT⟩, ⟨_, PySem.W.mg_of X G n_MOST_WRITTEN⟩, ⟨PySem.W.mg_of X G a_MadeError, ⟨⟨_, _, _, _, _, _, _, _, _, _, _, _, _, _, _, l_MadeError, r_MadeError⟩, sa_MadeError, ex_MadeError, ty_MadeError, k_MadeError⟩, i_MadeError, v_MadeError⟩, ⟨PySem.W.mg_of X G a_BadRow, ⟨⟨_, _, _, _, _, _, _, _, _, _, _, _, _, _, _, l_BadRow, r_BadRow⟩, sa_BadRow, ex_BadRow, ty_BadRow, k_BadRow⟩, i_BadRow, v_BadRow⟩, ⟨PySem.W.mg_of X G a_BadThing, ⟨⟨_, _, _, _, _, _, _, _, _, _, _, _, _, _, _, l_BadThing, r_BadThing⟩, sa_BadThing, ex_BadThing, ty_BadThing, k_BadThing⟩, i_BadThing, v_BadThing⟩, ⟨PySem.W.mg_of X G a_BadForm, ⟨⟨_, _, _, _, _, _, _, _, _, _, _, _, _, _, _, l_BadForm, r_BadForm⟩, sa_BadForm, ex_BadForm, ty_BadForm, k_BadForm⟩, i_BadForm, v_BadForm⟩, ⟨PySem.W.mg_of X G a_BadSign, ⟨⟨_, _, _, _, _, _, _, _, _, _, _, _, _, _, _, l_BadSign, r_BadSign⟩, sa_BadSign, ex_BadSign, ty_BadSign, k_BadSign⟩, i_BadSign, v_BadSign⟩, ⟨PySem.W.mg_of X G a_TooLong, ⟨⟨_, _, _, _, _, _, _, _, _, _, _, _, _, _, _, l_TooLong, r_TooLong⟩, sa_TooLong, ex_TooLong, ty_TooLong, k_TooLong⟩, i_TooLong, v_TooLong⟩, ⟨PySem.W.mg_of X G a_Finished, ⟨⟨_, _, _, _, _, _, _, _, _, _, _, _, _, _, _, l_Finished, r_Finished⟩, sa_Finished, ex_Finished, ty_Finished, k_Finished⟩, i_Finished, v_Finished⟩, ⟨PySem.W.mg_of X G a_NothingDone, ⟨⟨_, _, _, _, _, _, _, _, _, _, _, _, _, _, _, l_NothingDone, r_NothingDone⟩, sa_NothingDone, ex_NothingDone, ty_NothingDone, k_NothingDone⟩, i_NothingDone, v_NothingDone⟩, PySem.W.mg_of X G a_Rules, ⟨⟨pg_Rules, hd_Rules, po_Rules, sa_Rules⟩, hc_Rules, hn_Rules, ht_Rules, hm_Rules, kt_Rules⟩, n_Rules_body, n_Rules_start, n_Rules_rules, n_Rules_tail, PySem.W.mg_of X G a_Program, ⟨⟨pg_Program, hd_Program, po_Program, sa_Program⟩, hc_Program, hn_Program, ht_Program, hm_Program, kt_Program⟩, n_Program_body, n_Program_start, n_Program_taken, PySem.W.mg_of X G a_Machine, ⟨⟨pg_Machine, hd_Machine, po_Machine, sa_Machine⟩, hc_Machine, hn_Machine, ht_Machine, hm_Machine, kt_Machine⟩, n_Machine__thing, n_Machine__row, n_Machine__program, n_Machine__at, n_Machine__stand, n_Machine__over, n_Machine__written, n_Machine__past, ⟨⟨ga_BadRow, gg_BadRow, ex_BadRow, hd_BadRow⟩, cl_BadRow, hc_BadRow, hn_BadRow, ht_BadRow, hm_BadRow, v_BadRow⟩, PySem.W.exm_ref ex_MadeError hd_MadeError ty_MadeError sb_BadRow, kt1_BadRow, kt2_BadRow, ⟨⟨ga_BadThing, gg_BadThing, ex_BadThing, hd_BadThing⟩, cl_BadThing, hc_BadThing, hn_BadThing, ht_BadThing, hm_BadThing, v_BadThing⟩, PySem.W.exm_ref ex_MadeError hd_MadeError ty_MadeError sb_BadThing, kt1_BadThing, kt2_BadThing⟩
  have F_init := fun_mk (x := "__init__") (qual := "MadeError.__init__") (st := s_init) l_init c_init k_init
  have b_init := F_init.binds (ps := ["self", "value"]) fun _ _ _ _ _ _ us hl => match us, hl with | [_, _], _ => rfl
  have F_init_TooLong := fun_mk (x := "__init__") (qual := "TooLong.__init__") (st := s_init_TooLong) l_init_TooLong c_init_TooLong k_init_TooLong
  have b_init_TooLong := F_init_TooLong.binds (ps := ["self"]) fun _ _ _ _ _ _ us hl => match us, hl with | [_], _ => rfl
  have F_init_Finished := fun_mk (x := "__init__") (qual := "Finished.__init__") (st := s_init_Finished) l_init_Finished c_init_Finished k_init_Finished
  have b_init_Finished := F_init_Finished.binds (ps := ["self"]) fun _ _ _ _ _ _ us hl => match us, hl with | [_], _ => rfl
  have D_law_pick : Dx K mg "_law_pick" s_law_pick ["tape", "size"] := dx_mk X G a_law_pick l_law_pick c_law_pick k_law_pick fun _ _ _ _ _ _ us hl => match us, hl with | [_, _], _ => rfl
  have D_law_tape : Dx K mg "_law_tape" s_law_tape ["script"] := dx_mk X G a_law_tape l_law_tape c_law_tape k_law_tape fun _ _ _ _ _ _ us hl => match us, hl with | [_], _ => rfl
  have D_is_whole : Dx K mg "is_whole" s_is_whole ["value"] := dx_mk X G a_is_whole l_is_whole c_is_whole k_is_whole fun _ _ _ _ _ _ us hl => match us, hl with | [_], _ => rfl
  have D_is_sign : Dx K mg "is_sign" s_is_sign ["value"] := dx_mk X G a_is_sign l_is_sign c_is_sign k_is_sign fun _ _ _ _ _ _ us hl => match us, hl with | [_], _ => rfl
  have D_is_form : Dx K mg "is_form" s_is_form ["value"] := dx_mk X G a_is_form l_is_form c_is_form k_is_form fun _ _ _ _ _ _ us hl => match us, hl with | [_], _ => rfl
  have D_is_row : Dx K mg "is_row" s_is_row ["value"] := dx_mk X G a_is_row l_is_row c_is_row k_is_row fun _ _ _ _ _ _ us hl => match us, hl with | [_], _ => rfl
  have D_shifted : Dx K mg "shifted" s_shifted ["row", "by"] := dx_mk X G a_shifted l_shifted c_shifted k_shifted fun _ _ _ _ _ _ us hl => match us, hl with | [_, _], _ => rfl
  have D_is_thing : Dx K mg "is_thing" s_is_thing ["row"] := dx_mk X G a_is_thing l_is_thing c_is_thing k_is_thing fun _ _ _ _ _ _ us hl => match us, hl with | [_], _ => rfl
  have D_form_of : Dx K mg "form_of" s_form_of ["thing"] := dx_mk X G a_form_of l_form_of c_form_of k_form_of fun _ _ _ _ _ _ us hl => match us, hl with | [_], _ => rfl
  have D_body_of : Dx K mg "body_of" s_body_of ["thing"] := dx_mk X G a_body_of l_body_of c_body_of k_body_of fun _ _ _ _ _ _ us hl => match us, hl with | [_], _ => rfl
  have D_thing_of : Dx K mg "thing_of" s_thing_of ["form", "number", "body"] := dx_mk X G a_thing_of l_thing_of c_thing_of k_thing_of fun _ _ _ _ _ _ us hl => match us, hl with | [_, _, _], _ => rfl
  have D_item_at : Dx K mg "item_at" s_item_at ["body", "at"] := dx_mk X G a_item_at l_item_at c_item_at k_item_at fun _ _ _ _ _ _ us hl => match us, hl with | [_, _], _ => rfl
  have D_word_at : Dx K mg "word_at" s_word_at ["body", "at"] := dx_mk X G a_word_at l_word_at c_word_at k_word_at fun _ _ _ _ _ _ us hl => match us, hl with | [_, _], _ => rfl
  have D_items_at : Dx K mg "items_at" s_items_at ["body", "at"] := dx_mk X G a_items_at l_items_at c_items_at k_items_at fun _ _ _ _ _ _ us hl => match us, hl with | [_, _], _ => rfl
  have D_rule_at : Dx K mg "rule_at" s_rule_at ["body", "at"] := dx_mk X G a_rule_at l_rule_at c_rule_at k_rule_at fun _ _ _ _ _ _ us hl => match us, hl with | [_, _], _ => rfl
  have D_rules_and_tail : Dx K mg "rules_and_tail" s_rules_and_tail ["body"] := dx_mk X G a_rules_and_tail l_rules_and_tail c_rules_and_tail k_rules_and_tail fun _ _ _ _ _ _ us hl => match us, hl with | [_], _ => rfl
  have F_Rules_init := fun_mk (x := "__init__") (qual := "Rules.__init__") (st := s_Rules_init) l_Rules_init c_Rules_init k_Rules_init
  have b_Rules_init := F_Rules_init.binds (ps := ["self", "body"]) fun _ _ _ _ _ _ us hl => match us, hl with | [_, _], _ => rfl
  have F_Program_init := fun_mk (x := "__init__") (qual := "Program.__init__") (st := s_Program_init) l_Program_init c_Program_init k_Program_init
  have b_Program_init := F_Program_init.binds (ps := ["self", "thing"]) fun _ _ _ _ _ _ us hl => match us, hl with | [_, _], _ => rfl
  have F_Program_rule_for := fun_mk (x := "rule_for") (qual := "Program.rule_for") (st := s_Program_rule_for) l_Program_rule_for c_Program_rule_for k_Program_rule_for
  have b_Program_rule_for := F_Program_rule_for.binds (ps := ["self", "stand", "sign"]) fun _ _ _ _ _ _ us hl => match us, hl with | [_, _, _], _ => rfl
  have F_Program_rule_at_end := fun_mk (x := "rule_at_end") (qual := "Program.rule_at_end") (st := s_Program_rule_at_end) l_Program_rule_at_end c_Program_rule_at_end k_Program_rule_at_end
  have b_Program_rule_at_end := F_Program_rule_at_end.binds (ps := ["self", "stand"]) fun _ _ _ _ _ _ us hl => match us, hl with | [_, _], _ => rfl
  have D_own_row : Dx K mg "own_row" s_own_row ["body", "first", "by"] := dx_mk X G a_own_row l_own_row c_own_row k_own_row fun _ _ _ _ _ _ us hl => match us, hl with | [_, _, _], _ => rfl
  have D_rule_size : Dx K mg "rule_size" s_rule_size ["rule", "body"] := dx_mk X G a_rule_size l_rule_size c_rule_size k_rule_size fun _ _ _ _ _ _ us hl => match us, hl with | [_, _], _ => rfl
  have D_rule_signs : Dx K mg "rule_signs" s_rule_signs ["rule", "sign", "body"] := dx_mk X G a_rule_signs l_rule_signs c_rule_signs k_rule_signs fun _ _ _ _ _ _ us hl => match us, hl with | [_, _, _], _ => rfl
  have F_Machine_write := fun_mk (x := "_write") (qual := "Machine._write") (st := s_Machine_write) l_Machine_write c_Machine_write k_Machine_write
  have b_Machine_write := F_Machine_write.binds (ps := ["self", "rule", "sign"]) fun _ _ _ _ _ _ us hl => match us, hl with | [_, _, _], _ => rfl
  have F_Machine_read := fun_mk (x := "_read") (qual := "Machine._read") (st := s_Machine_read) l_Machine_read c_Machine_read k_Machine_read
  have b_Machine_read := F_Machine_read.binds (ps := ["self", "sign"]) fun _ _ _ _ _ _ us hl => match us, hl with | [_, _], _ => rfl
  have F_Machine_step := fun_mk (x := "step") (qual := "Machine.step") (st := s_Machine_step) l_Machine_step c_Machine_step k_Machine_step
  have b_Machine_step := F_Machine_step.binds (ps := ["self"]) fun _ _ _ _ _ _ us hl => match us, hl with | [_], _ => rfl
  have F_Machine_go := fun_mk (x := "go") (qual := "Machine.go") (st := s_Machine_go) l_Machine_go c_Machine_go k_Machine_go
  have b_Machine_go := F_Machine_go.binds (ps := ["self"]) fun _ _ _ _ _ _ us hl => match us, hl with | [_], _ => rfl
  have F_Machine_init := fun_mk (x := "__init__") (qual := "Machine.__init__") (st := s_Machine_init) l_Machine_init c_Machine_init k_Machine_init
  have b_Machine_init := F_Machine_init.binds (ps := ["self", "thing", "row"]) fun _ _ _ _ _ _ us hl => match us, hl with | [_, _, _], _ => rfl
  have F_Machine_row := fun_mk (x := "row") (qual := "Machine.row") (st := s_Machine_row) l_Machine_row c_Machine_row k_Machine_row
  have b_Machine_row := F_Machine_row.binds (ps := ["self"]) fun _ _ _ _ _ _ us hl => match us, hl with | [_], _ => rfl
  have D_run : Dx K mg "run" s_run ["thing", "row"] := dx_mk X G a_run l_run c_run k_run fun _ _ _ _ _ _ us hl => match us, hl with | [_, _], _ => rfl
  have D_item_text : Dx K mg "item_text" s_item_text ["item"] := dx_mk X G a_item_text l_item_text c_item_text k_item_text fun _ _ _ _ _ _ us hl => match us, hl with | [_], _ => rfl
  have D_items_text : Dx K mg "items_text" s_items_text ["items"] := dx_mk X G a_items_text l_items_text c_items_text k_items_text fun _ _ _ _ _ _ us hl => match us, hl with | [_], _ => rfl
  have D_rule_text : Dx K mg "rule_text" s_rule_text ["rule"] := dx_mk X G a_rule_text l_rule_text c_rule_text k_rule_text fun _ _ _ _ _ _ us hl => match us, hl with | [_], _ => rfl
  have D_write_body : Dx K mg "write_body" s_write_body ["body"] := dx_mk X G a_write_body l_write_body c_write_body k_write_body fun _ _ _ _ _ _ us hl => match us, hl with | [_], _ => rfl
  have D_law_sign : Dx K mg "_law_sign" s_law_sign ["tape"] := dx_mk X G a_law_sign l_law_sign c_law_sign k_law_sign fun _ _ _ _ _ _ us hl => match us, hl with | [_], _ => rfl
  have D_law_signs : Dx K mg "_law_signs" s_law_signs ["tape", "many"] := dx_mk X G a_law_signs l_law_signs c_law_signs k_law_signs fun _ _ _ _ _ _ us hl => match us, hl with | [_, _], _ => rfl
  have D_law_odd : Dx K mg "_law_odd" s_law_odd ["tape"] := dx_mk X G a_law_odd l_law_odd c_law_odd k_law_odd fun _ _ _ _ _ _ us hl => match us, hl with | [_], _ => rfl
  have D_law_no_thing : Dx K mg "_law_no_thing" s_law_no_thing ["tape", "good"] := dx_mk X G a_law_no_thing l_law_no_thing c_law_no_thing k_law_no_thing fun _ _ _ _ _ _ us hl => match us, hl with | [_, _], _ => rfl
  have D_law_tried : Dx K mg "_law_tried" s_law_tried ["kind", "row"] := dx_mk X G a_law_tried l_law_tried c_law_tried k_law_tried fun _ _ _ _ _ _ us hl => match us, hl with | [_, _], _ => rfl
  have D_law_tried_thing : Dx K mg "_law_tried_thing" s_law_tried_thing ["kind", "thing", "row"] := dx_mk X G a_law_tried_thing l_law_tried_thing c_law_tried_thing k_law_tried_thing fun _ _ _ _ _ _ us hl => match us, hl with | [_, _, _], _ => rfl
  have F_law := fun_mk (x := "law") (qual := "law") (st := s_law) l_law c_law k_law
  refine ⟨PySem.W.fnOf "law" "law" (defArgs s_law) (defBody s_law) (defScope s_law) .none kV_law dc_law pm_law an_law cd_law ct_law, fun s v => .of_eq rfl, fun base KB GB => ?_⟩
  have C_init : InitOk l.prog w K mg base 1 f_init := ⟨t_init, _, b_init, ok_init F_init⟩
  have I_TooLong : InitOk0 l.prog w K mg base 2 f_init_TooLong := ⟨t_init_TooLong, _, b_init_TooLong, ok_init_TooLong F_init_TooLong ⟨rd, sg⟩ fc (ok_init F_init) k_init b_init T.x_MadeError.g⟩
  have I_Finished : InitOk0 l.prog w K mg base 2 f_init_Finished := ⟨t_init_Finished, _, b_init_Finished, ok_init_Finished F_init_Finished ⟨rd, sg⟩ fc (ok_init F_init) k_init b_init T.x_MadeError.g⟩
  have C_law_pick : Pr l.prog w K mg base 1 "_law_pick" ["tape", "size"] spPick := ok_law_pick T D_law_pick 
  have C_law_tape : Pr l.prog w K mg base 1 "_law_tape" ["script"] (spTape K) := ok_law_tape T D_law_tape 
  have C_is_whole : Pr l.prog w K mg base 1 "is_whole" ["value"] (spD K dWhole) := ok_is_whole T D_is_whole 
  have C_is_sign : Pr l.prog w K mg base 2 "is_sign" ["value"] (spD K dSign) := ok_is_sign T D_is_sign C_is_whole
  have C_is_form : Pr l.prog w K mg base 2 "is_form" ["value"] (spD K dForm) := ok_is_form T D_is_form C_is_whole
  have C_is_row : Pr l.prog w K mg base 3 "is_row" ["value"] (spD K dRow) := ok_is_row T D_is_row 
  have C_shifted : Pr l.prog w K mg base 1 "shifted" ["row", "by"] (spShifted K) := ok_shifted T D_shifted 
  have C_is_thing : Pr l.prog w K mg base 4 "is_thing" ["row"] (spD K dThing) := ok_is_thing T D_is_thing C_is_row C_is_form
  have C_form_of : Pr l.prog w K mg base 5 "form_of" ["thing"] (spThing1 K C_BadThing dFst) := ok_form_of T D_form_of C_is_thing C_init
  have C_body_of : Pr l.prog w K mg base 6 "body_of" ["thing"] (spBodyOf K C_BadThing) := ok_body_of T D_body_of C_form_of C_shifted
  have C_thing_of : Pr l.prog w K mg base 4 "thing_of" ["form", "number", "body"] (spThingOf K C_BadForm C_BadSign C_BadRow) := ok_thing_of T D_thing_of C_is_form C_is_sign C_is_row C_shifted C_init
  have C_item_at : Pr l.prog w K mg base 1 "item_at" ["body", "at"] (spItemAt K) := ok_item_at T D_item_at 
  have C_word_at : Pr l.prog w K mg base 1 "word_at" ["body", "at"] (spWordAt K) := ok_word_at T D_word_at 
  have C_items_at : Pr l.prog w K mg base 2 "items_at" ["body", "at"] (spItemsAt K) := ok_items_at T D_items_at C_item_at
  have C_rule_at : Pr l.prog w K mg base 3 "rule_at" ["body", "at"] (spRuleAt K) := ok_rule_at T D_rule_at C_word_at C_items_at
  have C_rules_and_tail : Pr l.prog w K mg base 4 "rules_and_tail" ["body"] (spRulesTail K) := ok_rules_and_tail T D_rules_and_tail C_rule_at
  have C_law_pick := pick_v C_law_pick
  have C_is_row := spD_w C_is_row
  have C_is_thing := spD_w C_is_thing
  have C_shifted := shifted_v C_shifted
  have C_body_of := body_vB C_body_of
  have C_thing_of := thing_vE C_thing_of
  have C_rules_and_tail := tail_v C_rules_and_tail
  have C_Rules : PrC l.prog w K mg base 6 "Rules" A_Rules ["self", "body"] (sdInitRE A_Rules C_BadRow) := ⟨_, _, PySem.W.mg_of X G a_Rules, ⟨mk_Rules, i_Rules_init, t_Rules_init, k_Rules⟩, b_Rules_init, ok_Rules_init T F_Rules_init C_is_row C_init C_rules_and_tail⟩
  have C_RulesR := make_RE C_Rules
  have C_Program : PrC l.prog w K mg base 8 "Program" A_Program ["self", "thing"] (sdInitP A_Program) := ⟨_, _, PySem.W.mg_of X G a_Program, ⟨mk_Program, i_Program_init, t_Program_init, k_Program⟩, b_Program_init, ok_Program_init T F_Program_init C_RulesR C_body_of⟩
  have M_Program_rule_for : MetF l.prog w K mg base 1 A_Program "rule_for" ["self", "stand", "sign"] (sdRuleFor A_Program) := ⟨_, _, ⟨i_Program_rule_for, t_Program_rule_for, k_Program_rule_for⟩, b_Program_rule_for, ok_Program_rule_for T F_Program_rule_for ⟩
  have M_Program_rule_at_end : MetF l.prog w K mg base 1 A_Program "rule_at_end" ["self", "stand"] (sdAtEnd A_Program) := ⟨_, _, ⟨i_Program_rule_at_end, t_Program_rule_at_end, k_Program_rule_at_end⟩, b_Program_rule_at_end, ok_Program_rule_at_end T F_Program_rule_at_end ⟩
  have C_own_row : Pr l.prog w K mg base 3 "own_row" ["body", "first", "by"] (lift sdOwnRow) := ok_own_row T D_own_row C_shifted
  have C_rule_size : Pr l.prog w K mg base 1 "rule_size" ["rule", "body"] (lift sdSize) := ok_rule_size T D_rule_size 
  have C_rule_signs : Pr l.prog w K mg base 4 "rule_signs" ["rule", "sign", "body"] (lift sdSignsR) := ok_rule_signs T D_rule_signs C_own_row
  have M_Machine_write : MetF l.prog w K mg base 7 A_Machine "_write" ["self", "rule", "sign"] (sdWrite A_Machine A_Program C_TooLong) := ⟨_, _, ⟨i_Machine_write, t_Machine_write, k_Machine_write⟩, b_Machine_write, ok_Machine_write T F_Machine_write C_rule_size C_rule_signs I_TooLong⟩
  have M_Machine_read : MetF l.prog w K mg base 8 A_Machine "_read" ["self", "sign"] (sdRead A_Machine A_Program C_TooLong) := ⟨_, _, ⟨i_Machine_read, t_Machine_read, k_Machine_read⟩, b_Machine_read, ok_Machine_read T F_Machine_read M_Program_rule_for M_Machine_write⟩
  have M_Machine_step : MetF l.prog w K mg base 9 A_Machine "step" ["self"] (sdStep A_Machine A_Program C_TooLong C_Finished) := ⟨_, _, ⟨i_Machine_step, t_Machine_step, k_Machine_step⟩, b_Machine_step, ok_Machine_step T F_Machine_step M_Program_rule_at_end M_Machine_write M_Machine_read I_Finished⟩
  have M_Machine_go : MetF l.prog w K mg base 10 A_Machine "go" ["self"] (sdGo A_Machine A_Program) := ⟨_, _, ⟨i_Machine_go, t_Machine_go, k_Machine_go⟩, b_Machine_go, ok_Machine_go T F_Machine_go M_Machine_step⟩
  have C_Machine : PrC l.prog w K mg base 10 "Machine" A_Machine ["self", "thing", "row"] (sdInitM A_Machine A_Program C_BadThing C_BadRow) := ⟨_, _, PySem.W.mg_of X G a_Machine, ⟨mk_Machine, i_Machine_init, t_Machine_init, k_Machine⟩, b_Machine_init, ok_Machine_init T F_Machine_init C_is_thing C_is_row C_Program C_init⟩
  have P_Machine_row : PrpF l.prog w K mg base 1 A_Machine "row" ["self"] (sdFld A_Machine "_row") := ⟨_, _, _, ⟨i_Machine_row, pg_Machine_row, pt_Machine_row, _, pr_Machine_row⟩, b_Machine_row, ok_Machine_row T F_Machine_row ⟩
  have C_run : Pr l.prog w K mg base 12 "run" ["thing", "row"] (lift (sdRun C_BadThing C_BadRow)) := ok_run T D_run C_Machine M_Machine_go
  have C_item_text : Pr l.prog w K mg base 1 "item_text" ["item"] (lift sdItemT) := ok_item_text T D_item_text 
  have C_items_text : Pr l.prog w K mg base 2 "items_text" ["items"] (lift sdItemsT) := ok_items_text T D_items_text C_item_text
  have C_rule_text : Pr l.prog w K mg base 3 "rule_text" ["rule"] (lift sdRuleT) := ok_rule_text T D_rule_text C_items_text
  have C_write_body : Pr l.prog w K mg base 8 "write_body" ["body"] (lift (sdWriteBE C_BadRow)) := ok_write_body T D_write_body C_Rules C_rule_text
  have C_law_sign : Pr l.prog w K mg base 2 "_law_sign" ["tape"] (lift sdSign) := ok_law_sign T D_law_sign C_law_pick
  have C_law_signs : Pr l.prog w K mg base 3 "_law_signs" ["tape", "many"] (lift sdSigns) := ok_law_signs T D_law_signs C_law_sign
  have C_law_odd : Pr l.prog w K mg base 2 "_law_odd" ["tape"] (lift sdOdd12) := ok_law_odd T D_law_odd C_law_pick
  have C_law_no_thing : Pr l.prog w K mg base 3 "_law_no_thing" ["tape", "good"] (lift sdNoThing12) := ok_law_no_thing T D_law_no_thing C_law_pick C_law_odd
  have C_law_tried : Pr l.prog w K mg base 13 "_law_tried" ["kind", "row"] (lift sdTried12) := ok_law_tried T D_law_tried C_Rules C_write_body C_thing_of C_Machine P_Machine_row C_run
  have C_law_tried_thing : Pr l.prog w K mg base 13 "_law_tried_thing" ["kind", "thing", "row"] (lift sdTriedT12) := ok_law_tried_thing T D_law_tried_thing C_Machine P_Machine_row C_run

  exact ok_law T F_law C_law_tape C_law_pick C_law_signs C_law_odd C_law_no_thing C_law_tried_thing C_law_tried
theorem walk {l : PySem.W.OpenLaw} {q : Program} {loose : List Str} {XP : (Str → Option Value) → Heap → Prop} {YP : World → Heap → Prop} {d : DefRec} {K : Params → PySem.W.Frag} (hn : l.most = some 63) (hdf : d.params.defaults = [])
    (hY : ∀ (w : World) (h : Heap), YP w h → (K w.params).In h)
    (F : ∀ (w : World) (mg : Str → Option Value) (fa : Addr) (h : Heap), (K w.params).In h → h.Ns mainGlobals mg → mg d.name = some (.ref fa) →
      ∃ fd : FuncData, (∀ (s : Shared) (u : Value), BindsTo s fd ⟨[u], []⟩ [("script", u)]) ∧ ∀ base : Heap, (K w.params).In base → base.Ns mainGlobals mg → FnG l.prog w (K w.params) mg base 14 fa fd ["script"] (spLaw (K w.params))) :
    PySem.W.WalkO q loose XP YP l.row.toRowW d [] (fun f vs => PySem.call f vs) :=
  walk_ofG (n := 63) (k := 14) (x := "script") (sp := fun w => spLaw (K w.params)) hn (by decide) hdf ⟨rfl, by decide, by decide⟩ hY F (fun _ _ a ns hl _ _ hS => ⟨a, ns, rfl, hS, hl, fun _ => rfl⟩)
end My

open PySem PySem.W PyProof.Rows in
set_option maxRecDepth 100000 in
set_option maxHeartbeats 0 in
theorem PySem.Challenge.cw_trulymade_k12_rows_refused_holds : PySem.Challenge.rw_trulymade_k12_rows_refused.Holds := by
  w_on; o_law; k_head; (case hw => w_witness2)
  k_fill
  refine My.walk (l := PySem.Challenge.rw_trulymade_k12_rows_refused) rfl rfl (fun w h Y => PySem.W.kIn_of Y) ?F
  case F =>
    intro w mg fa h KX G hmg
    refine' My.all_mk KX G hmg ?a_MadeError ?l_MadeError ?r_MadeError ?sa_MadeError ?ex_MadeError ?ty_MadeError ?k_MadeError ?i_MadeError ?l_init ?c_init ?k_init ?t_init ?v_MadeError ?a_BadRow ?l_BadRow ?r_BadRow ?sa_BadRow ?ex_BadRow ?ty_BadRow ?k_BadRow ?i_BadRow ?v_BadRow ?a_BadThing ?l_BadThing ?r_BadThing ?sa_BadThing ?ex_BadThing ?ty_BadThing ?k_BadThing ?i_BadThing ?v_BadThing ?a_BadForm ?l_BadForm ?r_BadForm ?sa_BadForm ?ex_BadForm ?ty_BadForm ?k_BadForm ?i_BadForm ?v_BadForm ?a_BadSign ?l_BadSign ?r_BadSign ?sa_BadSign ?ex_BadSign ?ty_BadSign ?k_BadSign ?i_BadSign ?v_BadSign ?a_TooLong ?l_TooLong ?r_TooLong ?sa_TooLong ?ex_TooLong ?ty_TooLong ?k_TooLong ?i_TooLong ?l_init_TooLong ?c_init_TooLong ?k_init_TooLong ?t_init_TooLong ?v_TooLong ?a_Finished ?l_Finished ?r_Finished ?sa_Finished ?ex_Finished ?ty_Finished ?k_Finished ?i_Finished ?l_init_Finished ?c_init_Finished ?k_init_Finished ?t_init_Finished ?v_Finished ?a_NothingDone ?l_NothingDone ?r_NothingDone ?sa_NothingDone ?ex_NothingDone ?ty_NothingDone ?k_NothingDone ?i_NothingDone ?v_NothingDone ?rd ?sg ?fc ?a_Rules ?pg_Rules ?hd_Rules ?po_Rules ?sa_Rules ?hc_Rules ?hn_Rules ?ht_Rules ?hm_Rules ?kt_Rules ?n_Rules_body ?n_Rules_start ?n_Rules_rules ?n_Rules_tail ?mk_Rules ?k_Rules ?i_Rules_init ?t_Rules_init ?l_Rules_init ?c_Rules_init ?k_Rules_init ?a_Program ?pg_Program ?hd_Program ?po_Program ?sa_Program ?hc_Program ?hn_Program ?ht_Program ?hm_Program ?kt_Program ?n_Program_body ?n_Program_start ?n_Program_taken ?mk_Program ?k_Program ?i_Program_init ?t_Program_init ?l_Program_init ?c_Program_init ?k_Program_init ?i_Program_rule_for ?t_Program_rule_for ?l_Program_rule_for ?c_Program_rule_for ?k_Program_rule_for ?i_Program_rule_at_end ?t_Program_rule_at_end ?l_Program_rule_at_end ?c_Program_rule_at_end ?k_Program_rule_at_end ?a_Machine ?pg_Machine ?hd_Machine ?po_Machine ?sa_Machine ?hc_Machine ?hn_Machine ?ht_Machine ?hm_Machine ?kt_Machine ?n_Machine__thing ?n_Machine__row ?n_Machine__program ?n_Machine__at ?n_Machine__stand ?n_Machine__over ?n_Machine__written ?n_Machine__past ?mk_Machine ?k_Machine ?i_Machine_write ?t_Machine_write ?l_Machine_write ?c_Machine_write ?k_Machine_write ?i_Machine_read ?t_Machine_read ?l_Machine_read ?c_Machine_read ?k_Machine_read ?i_Machine_step ?t_Machine_step ?l_Machine_step ?c_Machine_step ?k_Machine_step ?i_Machine_go ?t_Machine_go ?l_Machine_go ?c_Machine_go ?k_Machine_go ?i_Machine_init ?t_Machine_init ?l_Machine_init ?c_Machine_init ?k_Machine_init ?i_Machine_row ?pg_Machine_row ?pt_Machine_row ?pr_Machine_row ?l_Machine_row ?c_Machine_row ?k_Machine_row ?n_SIGNS ?n_FORMS ?n_SHIFT ?n_MOST_WRITTEN ?hd_MadeError ?kt1_BadRow ?kt2_BadRow ?ga_BadRow ?gg_BadRow ?hd_BadRow ?cl_BadRow ?hc_BadRow ?hn_BadRow ?ht_BadRow ?hm_BadRow ?sb_BadRow ?kt1_BadThing ?kt2_BadThing ?ga_BadThing ?gg_BadThing ?hd_BadThing ?cl_BadThing ?hc_BadThing ?hn_BadThing ?ht_BadThing ?hm_BadThing ?sb_BadThing ?z_len ?z_int ?z_bool ?z_str ?z_list ?z_tuple ?z_dict ?z_range ?z_enumerate ?z_isinstance ?z_repr ?z_ValueError ?a_law_pick ?l_law_pick ?c_law_pick ?k_law_pick ?a_law_tape ?l_law_tape ?c_law_tape ?k_law_tape ?a_is_whole ?l_is_whole ?c_is_whole ?k_is_whole ?a_is_sign ?l_is_sign ?c_is_sign ?k_is_sign ?a_is_form ?l_is_form ?c_is_form ?k_is_form ?a_is_row ?l_is_row ?c_is_row ?k_is_row ?a_shifted ?l_shifted ?c_shifted ?k_shifted ?a_is_thing ?l_is_thing ?c_is_thing ?k_is_thing ?a_form_of ?l_form_of ?c_form_of ?k_form_of ?a_body_of ?l_body_of ?c_body_of ?k_body_of ?a_thing_of ?l_thing_of ?c_thing_of ?k_thing_of ?a_item_at ?l_item_at ?c_item_at ?k_item_at ?a_word_at ?l_word_at ?c_word_at ?k_word_at ?a_items_at ?l_items_at ?c_items_at ?k_items_at ?a_rule_at ?l_rule_at ?c_rule_at ?k_rule_at ?a_rules_and_tail ?l_rules_and_tail ?c_rules_and_tail ?k_rules_and_tail ?a_own_row ?l_own_row ?c_own_row ?k_own_row ?a_rule_size ?l_rule_size ?c_rule_size ?k_rule_size ?a_rule_signs ?l_rule_signs ?c_rule_signs ?k_rule_signs ?a_run ?l_run ?c_run ?k_run ?a_item_text ?l_item_text ?c_item_text ?k_item_text ?a_items_text ?l_items_text ?c_items_text ?k_items_text ?a_rule_text ?l_rule_text ?c_rule_text ?k_rule_text ?a_write_body ?l_write_body ?c_write_body ?k_write_body ?a_law_sign ?l_law_sign ?c_law_sign ?k_law_sign ?a_law_signs ?l_law_signs ?c_law_signs ?k_law_signs ?a_law_odd ?l_law_odd ?c_law_odd ?k_law_odd ?a_law_no_thing ?l_law_no_thing ?c_law_no_thing ?k_law_no_thing ?a_law_tried ?l_law_tried ?c_law_tried ?k_law_tried ?a_law_tried_thing ?l_law_tried_thing ?c_law_tried_thing ?k_law_tried_thing ?a_law ?l_law ?c_law ?k_law
    (case a_MadeError => k_is)
    (case l_MadeError => k_is)
    (case r_MadeError => decide +kernel)
    (case sa_MadeError => k_is)
    (case ex_MadeError => k_is)
    (case ty_MadeError => k_is)
    (case k_MadeError => k_is)
    (case i_MadeError => k_is)
    (case l_init => k_is)
    (case c_init => k_is)
    (case k_init => k_is)
    (case t_init => k_is)
    (case v_MadeError => k_is)
    (case a_BadRow => k_is)
    (case l_BadRow => k_is)
    (case r_BadRow => decide +kernel)
    (case sa_BadRow => k_is)
    (case ex_BadRow => k_is)
    (case ty_BadRow => k_is)
    (case k_BadRow => k_is)
    (case i_BadRow => k_is)
    (case v_BadRow => k_is)
    (case a_BadThing => k_is)
    (case l_BadThing => k_is)
    (case r_BadThing => decide +kernel)
    (case sa_BadThing => k_is)
    (case ex_BadThing => k_is)
    (case ty_BadThing => k_is)
    (case k_BadThing => k_is)
    (case i_BadThing => k_is)
    (case v_BadThing => k_is)
    (case a_BadForm => k_is)
    (case l_BadForm => k_is)
    (case r_BadForm => decide +kernel)
    (case sa_BadForm => k_is)
    (case ex_BadForm => k_is)
    (case ty_BadForm => k_is)
    (case k_BadForm => k_is)
    (case i_BadForm => k_is)
    (case v_BadForm => k_is)
    (case a_BadSign => k_is)
    (case l_BadSign => k_is)
    (case r_BadSign => decide +kernel)
    (case sa_BadSign => k_is)
    (case ex_BadSign => k_is)
    (case ty_BadSign => k_is)
    (case k_BadSign => k_is)
    (case i_BadSign => k_is)
    (case v_BadSign => k_is)
    (case a_TooLong => k_is)
    (case l_TooLong => k_is)
    (case r_TooLong => decide +kernel)
    (case sa_TooLong => k_is)
    (case ex_TooLong => k_is)
    (case ty_TooLong => k_is)
    (case k_TooLong => k_is)
    (case i_TooLong => k_is)
    (case l_init_TooLong => k_is)
    (case c_init_TooLong => k_is)
    (case k_init_TooLong => k_is)
    (case t_init_TooLong => k_is)
    (case v_TooLong => k_is)
    (case a_Finished => k_is)
    (case l_Finished => k_is)
    (case r_Finished => decide +kernel)
    (case sa_Finished => k_is)
    (case ex_Finished => k_is)
    (case ty_Finished => k_is)
    (case k_Finished => k_is)
    (case i_Finished => k_is)
    (case l_init_Finished => k_is)
    (case c_init_Finished => k_is)
    (case k_init_Finished => k_is)
    (case t_init_Finished => k_is)
    (case v_Finished => k_is)
    (case a_NothingDone => k_is)
    (case l_NothingDone => k_is)
    (case r_NothingDone => decide +kernel)
    (case sa_NothingDone => k_is)
    (case ex_NothingDone => k_is)
    (case ty_NothingDone => k_is)
    (case k_NothingDone => k_is)
    (case i_NothingDone => k_is)
    (case v_NothingDone => k_is)
    (case rd => k_is)
    (case sg => k_is)
    (case fc => k_is)
    (case a_Rules => k_is)
    (case pg_Rules => k_is)
    (case hd_Rules => k_is)
    (case po_Rules => k_is)
    (case sa_Rules => k_is)
    (case hc_Rules => k_is)
    (case hn_Rules => k_is)
    (case ht_Rules => k_is)
    (case hm_Rules => k_is)
    (case kt_Rules => kit_is)
    (case n_Rules_body => k_is)
    (case n_Rules_start => k_is)
    (case n_Rules_rules => k_is)
    (case n_Rules_tail => k_is)
    (case mk_Rules => k_is)
    (case k_Rules => k_is)
    (case i_Rules_init => k_is)
    (case t_Rules_init => k_is)
    (case l_Rules_init => k_is)
    (case c_Rules_init => k_is)
    (case k_Rules_init => k_is)
    (case a_Program => k_is)
    (case pg_Program => k_is)
    (case hd_Program => k_is)
    (case po_Program => k_is)
    (case sa_Program => k_is)
    (case hc_Program => k_is)
    (case hn_Program => k_is)
    (case ht_Program => k_is)
    (case hm_Program => k_is)
    (case kt_Program => kit_is)
    (case n_Program_body => k_is)
    (case n_Program_start => k_is)
    (case n_Program_taken => k_is)
    (case mk_Program => k_is)
    (case k_Program => k_is)
    (case i_Program_init => k_is)
    (case t_Program_init => k_is)
    (case l_Program_init => k_is)
    (case c_Program_init => k_is)
    (case k_Program_init => k_is)
    (case i_Program_rule_for => k_is)
    (case t_Program_rule_for => k_is)
    (case l_Program_rule_for => k_is)
    (case c_Program_rule_for => k_is)
    (case k_Program_rule_for => k_is)
    (case i_Program_rule_at_end => k_is)
    (case t_Program_rule_at_end => k_is)
    (case l_Program_rule_at_end => k_is)
    (case c_Program_rule_at_end => k_is)
    (case k_Program_rule_at_end => k_is)
    (case a_Machine => k_is)
    (case pg_Machine => k_is)
    (case hd_Machine => k_is)
    (case po_Machine => k_is)
    (case sa_Machine => k_is)
    (case hc_Machine => k_is)
    (case hn_Machine => k_is)
    (case ht_Machine => k_is)
    (case hm_Machine => k_is)
    (case kt_Machine => kit_is)
    (case n_Machine__thing => k_is)
    (case n_Machine__row => k_is)
    (case n_Machine__program => k_is)
    (case n_Machine__at => k_is)
    (case n_Machine__stand => k_is)
    (case n_Machine__over => k_is)
    (case n_Machine__written => k_is)
    (case n_Machine__past => k_is)
    (case mk_Machine => k_is)
    (case k_Machine => k_is)
    (case i_Machine_write => k_is)
    (case t_Machine_write => k_is)
    (case l_Machine_write => k_is)
    (case c_Machine_write => k_is)
    (case k_Machine_write => k_is)
    (case i_Machine_read => k_is)
    (case t_Machine_read => k_is)
    (case l_Machine_read => k_is)
    (case c_Machine_read => k_is)
    (case k_Machine_read => k_is)
    (case i_Machine_step => k_is)
    (case t_Machine_step => k_is)
    (case l_Machine_step => k_is)
    (case c_Machine_step => k_is)
    (case k_Machine_step => k_is)
    (case i_Machine_go => k_is)
    (case t_Machine_go => k_is)
    (case l_Machine_go => k_is)
    (case c_Machine_go => k_is)
    (case k_Machine_go => k_is)
    (case i_Machine_init => k_is)
    (case t_Machine_init => k_is)
    (case l_Machine_init => k_is)
    (case c_Machine_init => k_is)
    (case k_Machine_init => k_is)
    (case i_Machine_row => k_is)
    (case pg_Machine_row => k_is)
    (case pt_Machine_row => k_is)
    (case pr_Machine_row => k_is)
    (case l_Machine_row => k_is)
    (case c_Machine_row => k_is)
    (case k_Machine_row => k_is)
    (case n_SIGNS => k_is)
    (case n_FORMS => k_is)
    (case n_SHIFT => k_is)
    (case n_MOST_WRITTEN => k_is)
    (case hd_MadeError => k_is)
    (case kt1_BadRow => kit_is)
    (case kt2_BadRow => kit_is)
    (case ga_BadRow => k_is)
    (case gg_BadRow => k_is)
    (case hd_BadRow => k_is)
    (case cl_BadRow => k_is)
    (case hc_BadRow => k_is)
    (case hn_BadRow => k_is)
    (case ht_BadRow => k_is)
    (case hm_BadRow => k_is)
    (case sb_BadRow => k_is)
    (case kt1_BadThing => kit_is)
    (case kt2_BadThing => kit_is)
    (case ga_BadThing => k_is)
    (case gg_BadThing => k_is)
    (case hd_BadThing => k_is)
    (case cl_BadThing => k_is)
    (case hc_BadThing => k_is)
    (case hn_BadThing => k_is)
    (case ht_BadThing => k_is)
    (case hm_BadThing => k_is)
    (case sb_BadThing => k_is)
    (case z_len => k_is)
    (case z_int => k_is)
    (case z_bool => k_is)
    (case z_str => k_is)
    (case z_list => k_is)
    (case z_tuple => k_is)
    (case z_dict => k_is)
    (case z_range => k_is)
    (case z_enumerate => k_is)
    (case z_isinstance => k_is)
    (case z_repr => k_is)
    (case z_ValueError => k_is)
    (case a_law_pick => k_is)
    (case l_law_pick => k_is)
    (case c_law_pick => k_is)
    (case k_law_pick => k_is)
    (case a_law_tape => k_is)
    (case l_law_tape => k_is)
    (case c_law_tape => k_is)
    (case k_law_tape => k_is)
    (case a_is_whole => k_is)
    (case l_is_whole => k_is)
    (case c_is_whole => k_is)
    (case k_is_whole => k_is)
    (case a_is_sign => k_is)
    (case l_is_sign => k_is)
    (case c_is_sign => k_is)
    (case k_is_sign => k_is)
    (case a_is_form => k_is)
    (case l_is_form => k_is)
    (case c_is_form => k_is)
    (case k_is_form => k_is)
    (case a_is_row => k_is)
    (case l_is_row => k_is)
    (case c_is_row => k_is)
    (case k_is_row => k_is)
    (case a_shifted => k_is)
    (case l_shifted => k_is)
    (case c_shifted => k_is)
    (case k_shifted => k_is)
    (case a_is_thing => k_is)
    (case l_is_thing => k_is)
    (case c_is_thing => k_is)
    (case k_is_thing => k_is)
    (case a_form_of => k_is)
    (case l_form_of => k_is)
    (case c_form_of => k_is)
    (case k_form_of => k_is)
    (case a_body_of => k_is)
    (case l_body_of => k_is)
    (case c_body_of => k_is)
    (case k_body_of => k_is)
    (case a_thing_of => k_is)
    (case l_thing_of => k_is)
    (case c_thing_of => k_is)
    (case k_thing_of => k_is)
    (case a_item_at => k_is)
    (case l_item_at => k_is)
    (case c_item_at => k_is)
    (case k_item_at => k_is)
    (case a_word_at => k_is)
    (case l_word_at => k_is)
    (case c_word_at => k_is)
    (case k_word_at => k_is)
    (case a_items_at => k_is)
    (case l_items_at => k_is)
    (case c_items_at => k_is)
    (case k_items_at => k_is)
    (case a_rule_at => k_is)
    (case l_rule_at => k_is)
    (case c_rule_at => k_is)
    (case k_rule_at => k_is)
    (case a_rules_and_tail => k_is)
    (case l_rules_and_tail => k_is)
    (case c_rules_and_tail => k_is)
    (case k_rules_and_tail => k_is)
    (case a_own_row => k_is)
    (case l_own_row => k_is)
    (case c_own_row => k_is)
    (case k_own_row => k_is)
    (case a_rule_size => k_is)
    (case l_rule_size => k_is)
    (case c_rule_size => k_is)
    (case k_rule_size => k_is)
    (case a_rule_signs => k_is)
    (case l_rule_signs => k_is)
    (case c_rule_signs => k_is)
    (case k_rule_signs => k_is)
    (case a_run => k_is)
    (case l_run => k_is)
    (case c_run => k_is)
    (case k_run => k_is)
    (case a_item_text => k_is)
    (case l_item_text => k_is)
    (case c_item_text => k_is)
    (case k_item_text => k_is)
    (case a_items_text => k_is)
    (case l_items_text => k_is)
    (case c_items_text => k_is)
    (case k_items_text => k_is)
    (case a_rule_text => k_is)
    (case l_rule_text => k_is)
    (case c_rule_text => k_is)
    (case k_rule_text => k_is)
    (case a_write_body => k_is)
    (case l_write_body => k_is)
    (case c_write_body => k_is)
    (case k_write_body => k_is)
    (case a_law_sign => k_is)
    (case l_law_sign => k_is)
    (case c_law_sign => k_is)
    (case k_law_sign => k_is)
    (case a_law_signs => k_is)
    (case l_law_signs => k_is)
    (case c_law_signs => k_is)
    (case k_law_signs => k_is)
    (case a_law_odd => k_is)
    (case l_law_odd => k_is)
    (case c_law_odd => k_is)
    (case k_law_odd => k_is)
    (case a_law_no_thing => k_is)
    (case l_law_no_thing => k_is)
    (case c_law_no_thing => k_is)
    (case k_law_no_thing => k_is)
    (case a_law_tried => k_is)
    (case l_law_tried => k_is)
    (case c_law_tried => k_is)
    (case k_law_tried => k_is)
    (case a_law_tried_thing => k_is)
    (case l_law_tried_thing => k_is)
    (case c_law_tried_thing => k_is)
    (case k_law_tried_thing => k_is)
    (case a_law => k_is)
    (case l_law => k_is)
    (case c_law => k_is)
    (case k_law => k_is)
