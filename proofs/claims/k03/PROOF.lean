import PyProof.Rows.All
import Wide.All
import OpenK.AllK
import Wide.FinOn
import HandS.ForExc
import HandS.Comp
import HandS.Evl
import HandS.Wide
import HandS.IsInst
import HandS.ExcInit
import HandS.ExcField
import HandS.TupAny
import HandS.EndBits
import PyProof.ReprRoads
import KE.KExcIs
import KE.RegKIsAll
import HandS.ExcIs
import PyProof.NeKinds
import PyProof.StrLawsRepr
import HandS.Dict
import HandS.ClsMeth
import HandS.More
import PySem.Challenge.RW_trulymade_k03_errors_apart
set_option Elab.async false
set_option linter.all false
set_option maxRecDepth 100000
set_option maxHeartbeats 2000000
namespace Fd
open PySem PySem.Spec PyProof.Rows L2

/-! ### heaps -/
theorem same_new {H : Hp} {p : Addr} {o : HO} (n : H p = none) : Same H (upd H p o) := fun b x e => by
  rw [upd_ne (ne_of_none e n)]
  exact e
theorem same_mut {H H' : Hp} {p : Addr} {o : HO} (s : Same H H') (n : H p = none) : Same H (upd H' p o) := fun b x e => by
  rw [upd_ne (ne_of_none e n)]
  exact s b x e
theorem same_t {K : PySem.W.Frag} {H H' : Hp} {a : Addr} {xs : List V} (s : Same H H') (h : SqT K H a xs) : SqT K H' a xs := Evl.ex_t s h
theorem same_l {K : PySem.W.Frag} {H H' : Hp} {a : Addr} {xs : List V} (s : Same H H') (h : SqL K H a xs) : SqL K H' a xs := Evl.ex_l s h

/-! ### a def that stands behind the top, with its promise -/
section
variable (P : Program) (w : World) (K : PySem.W.Frag) (mg : Str → Option Value) (base : Heap)
/-- the def called x keeps the promise sp by at most level k -/
structure Pr (k : Nat) (x : Str) (ps : List Str) (sp : Sp) : Prop where
  ex : ∃ (f : Addr) (fd : FuncData), mg x = some (.ref f) ∧ PySem.W.keepIn K (.ref f) = true ∧ Binds K fd ps [] ∧ FnOk P w K mg base (L2.CX P w) k f fd ps sp
/-- the def called x as the top left it -/
structure Dx (x : Str) (st : Stmt) (ps : List Str) : Prop where
  ex : ∃ (f : Addr) (fd : FuncData), mg x = some (.ref f) ∧ Binds K fd ps [] ∧ Fun K x x st f fd
end
section
variable {P : Program} {w : World} {K : PySem.W.Frag} {mg : Str → Option Value} {base : Heap}
theorem Dx.pr {x : Str} {st : Stmt} {N ps : List Str} {k : Nat} {sp : Sp} (D : Dx K mg x st ps) (S : FnScope N ps (defScope st)) (len : ∀ vs H Q E, sp vs H Q E → vs.length = ps.length)
    (body : ∀ (f : Addr) (cdv : Value) (A : Around) (outer : List Env) (s : Shared) (H : Hp) (vs : List V) (Q : VK) (E : XK), Room k (A.deeper (envOfC x (defScope st) s.heap.objs.size f cdv)) → sp vs H Q E →
      ∃ t, PSs (cxOf (L2.CX P w) P w K mg base N x (defScope st) f cdv A outer s H E) (defBody st) t ∧ t { nx := fun _ H' => Q .non H', rt := Q } (start N vs) H) : Pr P w K mg base (k + 1) x ps sp := by
  obtain ⟨f, fd, g, b, F⟩ := D.ex
  exact ⟨f, fd, g, F.kp, b, F.okX S len fun cdv A outer s H vs Q E hr h => body f cdv A outer s H vs Q E hr h⟩
theorem dx_mk {x : Str} {st : Stmt} {ps : List Str} {f : Addr} {oc : Value} {od an : Option Addr} {osl : Array (Option Value)} {kV doc pm cdv ct : Value} {h : Heap} (X : K.In h) (G : h.Ns mainGlobals mg) (a : PySem.W.nsIn K mainGlobals x = some (some (.ref f)))
    (l : K.lookup f = some ⟨oc, od, .func (PySem.W.fnOf x x (defArgs st) (defBody st) (defScope st) .none kV doc pm an cdv ct), osl⟩) (c : PySem.W.codeIn K cdv x = true) (k : PySem.W.keepIn K (.ref f) = true)
    (hb : ∀ (kV doc pm : Value) (an : Option Addr) (cdv ct : Value) (us : List Value), us.length = ps.length → bindArgs (PySem.W.fnOf x x (defArgs st) (defBody st) (defScope st) .none kV doc pm an cdv ct) ⟨us, []⟩ = pure (ps.zip us)) : Dx K mg x st ps :=
  ⟨f, _, PySem.W.mg_of X G a, (fun_mk (st := st) l c k).binds hb, fun_mk (st := st) l c k⟩
end
section
variable {X : Cx} {k : Nat} {x : Str} {ps : List Str} {sp : Sp} {E : XK} {e : Expr} {es : List Expr} {t : TA} {p pos : Pos}
/-- a call of such a def; what it lets out is wished for as E says -/
theorem pe_callP (C : Pr X.prog X.w X.K X.mg X.base k x ps sp) (hr : Room k X.A) (hg : Gl X x) (hx : Passes (L2.CX X.prog X.w) X E) (ha : PA X (e :: es) t) (hdb : (x == ("__debug__" : Str)) = false := by decide)
    (he : starEach (e :: es) X.env = (false, eval e X.env) :: starEach es X.env := by rfl) (hpl : (backTo pos (starEach es X.env)).any (·.1) = false := by rfl) : PE X (.Call (.Name x p) (e :: es) [] pos) (tCall sp [] E t) := by
  obtain ⟨f, fd, g, kp, b, F⟩ := C.ex
  exact pe_call F hr hg g kp b .nil hx ha hdb he hpl
end

/-! ### what is walked: a list or a tuple -/
/-- a sequence, of which kind is left open -/
def SqS (K : PySem.W.Frag) (H : Hp) (a : Addr) (xs : List V) : Prop := SqL K H a xs ∨ SqT K H a xs
def iSeq (K : PySem.W.Frag) (tl : TE) : TI := fun σ H R => tl σ H fun x H1 => ∃ a, x = .ref a ∧ (((∃ xs, SqL K H1 a xs) ∧ R (Itl K a) H1) ∨ ((∃ xs, SqT K H1 a xs) ∧ R (Itt K a) H1))
theorem pi_seq {X : Cx} {tg l : Expr} {tl : TE} (hl : PE X l tl) : PI X tg l (iSeq X.K tl) := by
  constructor
  intro pins s σ H R I h
  refine thn (hl.run pins s σ H _ I h) ?_
  rintro v s1 ⟨x, H1, I1, r1, a, rfl, q⟩
  cases r1
  have fresh : FpOk X pins H1 s1.heap.objs.size := I1.fpOk (Nat.le_refl _) (I1.hok.fresh (Nat.le_refl _))
  have all : ∀ b ∈ [s1.heap.objs.size], FpOk X pins H1 b := fun b hb => by
    rw [List.mem_singleton.mp hb]
    exact fresh
  rcases q with ⟨⟨xs, hq⟩, q⟩ | ⟨⟨xs, hq⟩, q⟩
  · obtain ⟨its, _, pl, _⟩ := I1.list hq
    exact wpAny_pyIter_list pl.isList ⟨_, [_], _, Itl X.K a, H1, rfl, I1.kept (t' := s1.toks) fun _ _ e => Heap.get?_push_of_some _ e, turn_list a _, ⟨_, Heap.get?_push_size _ rfl, rfl, rfl⟩, all, q⟩
  · obtain ⟨its, _, pt, _⟩ := I1.tuple hq
    exact wpAny_pyIter_tuple (show s1.heap.IsTuple a its.toArray from pt) ⟨_, [_], _, Itt X.K a, H1, rfl, I1.kept (t' := s1.toks) fun _ _ e => Heap.get?_push_of_some _ e, turn_tuple a _, ⟨_, Heap.get?_push_size _ rfl, rfl, rfl⟩, all, q⟩

/-! ### errors that keep a value -/
theorem PMk.imp {X : Cx} {e : Expr} {t u : L2.St → Hp → XK → Prop} (h : PMk X e t) (i : ∀ σ H Q, u σ H Q → t σ H Q) : PMk X e u := fun pins s σ H Q I q => h pins s σ H Q I (i σ H Q q)
/-- what __init__(self, value) of the errors promises -/
def spInit (K : PySem.W.Frag) : Sp := fun vs H Q _ => ∃ (a C : Addr) (v : V), vs = [.ref a, v] ∧ OexC K C ∧ PySem.W.findIn K (.ref C) "value" = some none ∧ H a = some (exo a C none) ∧
  ∀ dx, H dx = none → dx ≠ a → Q .non (upd (upd H dx (exd dx [("value", v)])) a (exo a C (some dx)))
/-- __init__ at fI -/
structure InitOk (P : Program) (w : World) (K : PySem.W.Frag) (mg : Str → Option Value) (base : Heap) (k : Nat) (fI : Addr) : Prop where
  ty : PySem.W.typeIn K (.ref fI) = some (.type "function")
  ok : ∃ fd, Binds K fd ["self", "value"] [] ∧ FnOk P w K mg base (L2.CX P w) k fI fd ["self", "value"] (spInit K)
/-- the class x stands at C and has fI as its __init__ -/
structure Ex (K : PySem.W.Frag) (mg : Str → Option Value) (x : Str) (C fI : Addr) : Prop where
  g : mg x = some (.ref C)
  o : OexC K C
  i : PySem.W.findIn K (.ref C) "__init__" = some (some (.ref fI))
  v : PySem.W.findIn K (.ref C) "value" = some none
/-- x(e) -/
def tMade (C : Addr) (te : TE) : L2.St → Hp → XK → Prop := fun σ H Q => te σ H fun v H1 => ∀ d, H1 d = none → Q (.ref C) (some d) (upd H1 d (.xd [(("value" : Str), v)]))
theorem upd_back {H : Hp} {a d : Addr} {o1 o2 o3 o4 : HO} (na : H a = none) (ne : d ≠ a) : upd (del (upd (upd (upd H a o1) d o2) a o3) a) d o4 = upd H d o4 := by
  funext b
  by_cases hd : b = d
  · rw [hd, upd_same, upd_same]
  · rw [upd_ne hd, upd_ne hd]
    by_cases ha : b = a
    · rw [ha, del_same, na]
    · rw [del_ne ha, upd_ne ha, upd_ne hd, upd_ne ha]
/-- a reading, weakened behind -/
def mon (te : TE) : TE := fun σ H Q => ∃ Q' : VK, te σ H Q' ∧ ∀ v H', Q' v H' → Q v H'
theorem pe_mon {X : Cx} {e : Expr} {te : TE} (h : PE X e te) : PE X e (mon te) := by
  constructor
  rintro pins s σ H Q I ⟨Q', h1, h2⟩
  refine thn (h.run pins s σ H Q' I h1) ?_
  rintro v s1 ⟨x, H1, I1, r1, q1⟩
  exact ⟨x, H1, I1, r1, h2 _ _ q1⟩
theorem pmk_made {X : Cx} {k : Nat} {x : Str} {C fI : Addr} {e : Expr} {te : TE} {p pos : Pos} (T : Ex X.K X.mg x C fI) (F : InitOk X.prog X.w X.K X.mg X.base k fI) (hr : Room (k + 1) X.A) (hx : Passes (L2.CX X.prog X.w) X (fun _ _ _ => False)) (hg : Gl X x) (he : PE X e te)
    (hdb : (x == ("__debug__" : Str)) = false := by decide) (hst : starEach (e :: []) X.env = (false, eval e X.env) :: starEach [] X.env := by rfl) (hpl : (backTo pos (starEach [] X.env)).any (·.1) = false := by rfl) :
    PMk X (.Call (.Name x p) [e] [] pos) (tMade C te) := by
  obtain ⟨fd, b, F1⟩ := F.ok
  refine PMk.imp (pmk_oex (ds := []) (dvs := []) T.o T.i F.ty F1 hr b .nil hx hg T.g (pa_cons (pe_mon he) pa_nil hst) hdb hst hpl) fun σ H Q h => ?_
  refine ⟨_, h, fun v H1 q => ⟨(by show 1 ≤ 1000; decide), fun a na => ⟨a, C, v, rfl, T.o, T.v, upd_same, fun dx nx ne => ?_⟩⟩⟩
  have n1 : H1 dx = none := by
    rw [upd_ne ne] at nx
    exact nx
  refine ⟨rfl, dx, [("value", v)], upd_same, ?_, n1, ?_⟩
  · rw [upd_ne ne, upd_same]
  · rw [upd_back na ne]
    exact q dx n1

/-! ### constants of the module -/
theorem pe_cst {X : Cx} {x : Str} {i : Int} {pos : Pos} (h : ∃ t, X.mg x = some (.int i t)) (hg : Gl X x := by rfl) (hd : (x == ("__debug__" : Str)) = false := by decide) : PE X (.Name x pos) (tC (.int i)) := by
  obtain ⟨t, e⟩ := h
  exact pe_glob hg e ⟨t, rfl⟩ hd
/-- the built-in names are still the built-in things -/
structure Nms (mg : Str → Option Value) : Prop where
  n_len : mg "len" = none
  n_int : mg "int" = none
  n_bool : mg "bool" = none
  n_str : mg "str" = none
  n_list : mg "list" = none
  n_tuple : mg "tuple" = none
  n_dict : mg "dict" = none
  n_range : mg "range" = none
  n_enumerate : mg "enumerate" = none
  n_isinstance : mg "isinstance" = none
  n_repr : mg "repr" = none
  n_ValueError : mg "ValueError" = none

/-- a built-in type as a value -/
theorem pe_ty {X : Cx} {x : Str} {pos : Pos} (n : String) (hm : X.mg x = none) (hg : Gl X x := by rfl) (hv : bootBuiltins x = some (.type n) := by decide +kernel) (hn : x ≠ "__name__" := by decide) (hd : (x == ("__debug__" : Str)) = false := by decide) : PE X (.Name x pos) (tC (.ty n)) :=
  pe_bltn hg hm hv rfl hn hd

/-! ### the tape: at t the five cells, at c the script's own copy -/
def TapeOk (H : Hp) (c : Addr) (T : List V) : Prop := ∃ (xs : List Int) (pos rest mix cnt : Int), T = [.ref c, .int pos, .int rest, .int mix, .int cnt] ∧ H c = some (.lst (xs.map V.int)) ∧ 0 ≤ pos ∧ 0 ≤ mix ∧ mix < 2147483648
def TapeAt (H : Hp) (t c : Addr) : Prop := ∃ T, H t = some (.lst T) ∧ TapeOk H c T
/-- all but t stands, t is a tape still -/
structure Go (t c : Addr) (H H' : Hp) : Prop where
  keep : ∀ b o, b ≠ t → H b = some o → H' b = some o
  tape : TapeAt H' t c
theorem tape_ne {H : Hp} {t c : Addr} {xs : List Int} {r : List V} (ht : H t = some (.lst (.ref c :: r))) (hc : H c = some (.lst (xs.map V.int))) : c ≠ t := fun e => by
  rw [e, ht] at hc
  cases xs with
  | nil => cases hc
  | cons x r => cases hc
theorem Go.trans {t c : Addr} {H H1 H2 : Hp} (a : Go t c H H1) (b : Go t c H1 H2) : Go t c H H2 := ⟨fun x o n e => b.keep x o n (a.keep x o n e), b.tape⟩
theorem Go.refl {t c : Addr} {H : Hp} (h : TapeAt H t c) : Go t c H H := ⟨fun _ _ _ e => e, h⟩
theorem TapeAt.there {H : Hp} {t c : Addr} (h : TapeAt H t c) {p : Addr} (n : H p = none) : p ≠ t ∧ p ≠ c := by
  obtain ⟨T, e1, xs, _, _, _, _, _, e2, _⟩ := h
  exact ⟨fun e => (by rw [e, e1] at n; cases n), fun e => (by rw [e, e2] at n; cases n)⟩
theorem TapeAt.keeps {H H' : Hp} {t c : Addr} (h : TapeAt H t c) (k : Same H H') : TapeAt H' t c := by
  obtain ⟨T, e1, xs, p, r, m, n, rfl, e2, h1, h2, h3⟩ := h
  exact ⟨_, k _ _ e1, xs, p, r, m, n, rfl, k _ _ e2, h1, h2, h3⟩
theorem Go.new {t c p : Addr} {H H' : Hp} {o : HO} (g : Go t c H H') (n : H' p = none) : Go t c H (upd H' p o) :=
  ⟨fun b u nb e => by rw [upd_ne (ne_of_none (g.keep b u nb e) n)]; exact g.keep b u nb e, g.tape.keeps (same_new n)⟩
/-- an object that came behind H is changed -/
theorem Go.mut {t c p : Addr} {H H' : Hp} {o : HO} (g : Go t c H H') (n : H p = none) (np : p ≠ t ∧ p ≠ c) : Go t c H (upd H' p o) := by
  refine ⟨fun b u nb e => ?_, ?_⟩
  · rw [upd_ne (ne_of_none e n)]
    exact g.keep b u nb e
  · obtain ⟨T, e1, ys, q, r, m, k, rfl, e2, h⟩ := g.tape
    exact ⟨_, by rw [upd_ne np.1.symm]; exact e1, ys, q, r, m, k, rfl, by rw [upd_ne np.2.symm]; exact e2, h⟩
theorem same_go {t c : Addr} {H0 H H' : Hp} (s : Same H0 H) (g : Go t c H H') (n : H0 t = none) : Same H0 H' := fun b o e => g.keep b o (fun z => by
  rw [z, n] at e
  cases e) (s b o e)
def spTape (K : PySem.W.Frag) : Sp := fun vs H Q _ => ∃ (a : Addr) (ns : List Int), vs = [.ref a] ∧ SqL K H a (ns.map V.int) ∧ ns.length ≤ 63 ∧ ∀ t c H', H t = none → Same H H' → TapeAt H' t c → Q (.ref t) H'
def spPick : Sp := fun vs H Q _ => ∃ (t c : Addr) (size : Int), vs = [.ref t, .int size] ∧ 0 < size ∧ size < 1073741824 ∧ TapeAt H t c ∧ ∀ d H', 0 ≤ d → d < size → Go t c H H' → Q (.int d) H'
def spSign : Sp := fun vs H Q _ => ∃ t c : Addr, vs = [.ref t] ∧ TapeAt H t c ∧ ∀ d H', 0 ≤ d → d < 100 → Go t c H H' → Q (.int d) H'
def Sgn (ns : List Int) : Prop := ∀ z ∈ ns, 0 ≤ z ∧ z < 100
def spSigns : Sp := fun vs H Q _ => ∃ (t c : Addr) (many : Int), vs = [.ref t, .int many] ∧ 0 ≤ many ∧ many ≤ 10000 ∧ TapeAt H t c ∧ ∀ p ns H', (ns.length : Int) = many → Sgn ns → H p = none → Go t c H H' → H' p = some (.lst (ns.map V.int)) → Q (.ref p) H'

/-! ### data: none, bools, ints, texts, lists, tuples, the empty dict -/
mutual
inductive Da (K : PySem.W.Frag) (H : Hp) : V → PyData → Prop
  | non : Da K H .non .none
  | bl (b : Bool) : Da K H (.bl b) (.bool b)
  | int (i : Int) : Da K H (.int i) (.int i)
  | str (x : Str) : Da K H (.str x) (.str x)
  | lst {a : Addr} {xs : List V} {ds : List PyData} : H a = some (.lst xs) → DaAll K H xs ds → Da K H (.ref a) (.list ds)
  | tup {a : Addr} {xs : List V} {ds : List PyData} : H a = some (.tup xs) → DaAll K H xs ds → Da K H (.ref a) (.tuple ds)
  | dic {a : Addr} : H a = some (.dK []) → Da K H (.ref a) (.dict [])
inductive DaAll (K : PySem.W.Frag) (H : Hp) : List V → List PyData → Prop
  | nil : DaAll K H [] []
  | cons {v : V} {vs : List V} {d : PyData} {ds : List PyData} : Da K H v d → DaAll K H vs ds → DaAll K H (v :: vs) (d :: ds)
end
mutual
theorem Da.keep {K : PySem.W.Frag} {H H' : Hp} (s : Same H H') : ∀ (d : PyData) (v : V), Da K H v d → Da K H' v d
  | .none, _, h => by cases h; exact .non
  | .bool _, _, h => by cases h; exact .bl _
  | .int _, _, h => by cases h; exact .int _
  | .str _, _, h => by cases h; exact .str _
  | .list ds, _, h => by
    cases h with
    | lst e a => exact .lst (s _ _ e) (DaAll.keep s ds _ a)
  | .tuple ds, _, h => by
    cases h with
    | tup e a => exact .tup (s _ _ e) (DaAll.keep s ds _ a)
  | .dict _, _, h => by
    cases h with
    | dic e => exact .dic (s _ _ e)
theorem DaAll.keep {K : PySem.W.Frag} {H H' : Hp} (s : Same H H') : ∀ (ds : List PyData) (vs : List V), DaAll K H vs ds → DaAll K H' vs ds
  | [], _, h => by cases h; exact .nil
  | d :: ds, _, h => by
    cases h with
    | cons a b => exact .cons (Da.keep s d _ a) (DaAll.keep s ds _ b)
end
theorem DaAll.ints {K : PySem.W.Frag} {H : Hp} : ∀ ns : List Int, DaAll K H (ns.map V.int) (ns.map PyData.int)
  | [] => .nil
  | n :: ns => .cons (.int n) (DaAll.ints ns)
theorem DaAll.get {K : PySem.W.Frag} {H : Hp} : ∀ {vs : List V} {ds : List PyData} {i : Nat} {v : V}, DaAll K H vs ds → vs[i]? = some v → ∃ d, ds[i]? = some d ∧ Da K H v d
  | _, _, _, _, .nil, e => by simp at e
  | _, _, 0, _, .cons h _, e => by simp at e; subst e; exact ⟨_, rfl, h⟩
  | _, _, i + 1, v, .cons _ t, e => by
    obtain ⟨d, h1, h2⟩ := DaAll.get (i := i) (v := v) t (by simpa using e)
    exact ⟨d, by simpa using h1, h2⟩
theorem DaAll.len {K : PySem.W.Frag} {H : Hp} : ∀ {vs : List V} {ds : List PyData}, DaAll K H vs ds → vs.length = ds.length
  | _, _, .nil => rfl
  | _, _, .cons _ t => by rw [List.length_cons, List.length_cons, DaAll.len t]
def tyD : PyData → String
  | .none => "NoneType" | .bool _ => "bool" | .int _ => "int" | .str _ => "str" | .list _ => "list" | .tuple _ => "tuple" | .dict _ => "dict"
theorem Da.ty {K : PySem.W.Frag} {H : Hp} {v : V} {d : PyData} (h : Da K H v d) : TyX K H v (.type (tyD d)) := by
  cases h with
  | non => exact .base .non
  | bl b => exact .base (.bl b)
  | int i => exact .base (.int i)
  | str x => exact .base (.str x)
  | lst e a => exact .base (.lst e)
  | tup e a => exact .base (.tup e)
  | dic e => exact .base (.dK e)
def dInt : PyData → Bool | .int _ => true | .bool _ => true | _ => false
def dBool : PyData → Bool | .bool _ => true | _ => false
def dStr : PyData → Bool | .str _ => true | _ => false
def dList : PyData → Bool | .list _ => true | _ => false
def dTuple : PyData → Bool | .tuple _ => true | _ => false
def dSeq : PyData → Bool | .list _ => true | .tuple _ => true | _ => false
theorem is_int {K : PySem.W.Frag} : ∀ d : PyData, PySem.W.kitOne K (.type (tyD d)) (.type "int") = some (dInt d)
  | .none => kit_ty (a := "NoneType") (b := "int") (r := false) (by decide +kernel)
  | .bool _ => kit_ty (a := "bool") (b := "int") (r := true) (by decide +kernel)
  | .int _ => kit_ty (a := "int") (b := "int") (r := true) (by decide +kernel)
  | .str _ => kit_ty (a := "str") (b := "int") (r := false) (by decide +kernel)
  | .list _ => kit_ty (a := "list") (b := "int") (r := false) (by decide +kernel)
  | .tuple _ => kit_ty (a := "tuple") (b := "int") (r := false) (by decide +kernel)
  | .dict _ => kit_ty (a := "dict") (b := "int") (r := false) (by decide +kernel)
theorem is_bool {K : PySem.W.Frag} : ∀ d : PyData, PySem.W.kitOne K (.type (tyD d)) (.type "bool") = some (dBool d)
  | .none => kit_ty (a := "NoneType") (b := "bool") (r := false) (by decide +kernel)
  | .bool _ => kit_ty (a := "bool") (b := "bool") (r := true) (by decide +kernel)
  | .int _ => kit_ty (a := "int") (b := "bool") (r := false) (by decide +kernel)
  | .str _ => kit_ty (a := "str") (b := "bool") (r := false) (by decide +kernel)
  | .list _ => kit_ty (a := "list") (b := "bool") (r := false) (by decide +kernel)
  | .tuple _ => kit_ty (a := "tuple") (b := "bool") (r := false) (by decide +kernel)
  | .dict _ => kit_ty (a := "dict") (b := "bool") (r := false) (by decide +kernel)
theorem is_str {K : PySem.W.Frag} : ∀ d : PyData, PySem.W.kitOne K (.type (tyD d)) (.type "str") = some (dStr d)
  | .none => kit_ty (a := "NoneType") (b := "str") (r := false) (by decide +kernel)
  | .bool _ => kit_ty (a := "bool") (b := "str") (r := false) (by decide +kernel)
  | .int _ => kit_ty (a := "int") (b := "str") (r := false) (by decide +kernel)
  | .str _ => kit_ty (a := "str") (b := "str") (r := true) (by decide +kernel)
  | .list _ => kit_ty (a := "list") (b := "str") (r := false) (by decide +kernel)
  | .tuple _ => kit_ty (a := "tuple") (b := "str") (r := false) (by decide +kernel)
  | .dict _ => kit_ty (a := "dict") (b := "str") (r := false) (by decide +kernel)
theorem is_list {K : PySem.W.Frag} : ∀ d : PyData, PySem.W.kitOne K (.type (tyD d)) (.type "list") = some (dList d)
  | .none => kit_ty (a := "NoneType") (b := "list") (r := false) (by decide +kernel)
  | .bool _ => kit_ty (a := "bool") (b := "list") (r := false) (by decide +kernel)
  | .int _ => kit_ty (a := "int") (b := "list") (r := false) (by decide +kernel)
  | .str _ => kit_ty (a := "str") (b := "list") (r := false) (by decide +kernel)
  | .list _ => kit_ty (a := "list") (b := "list") (r := true) (by decide +kernel)
  | .tuple _ => kit_ty (a := "tuple") (b := "list") (r := false) (by decide +kernel)
  | .dict _ => kit_ty (a := "dict") (b := "list") (r := false) (by decide +kernel)
theorem is_tuple {K : PySem.W.Frag} : ∀ d : PyData, PySem.W.kitOne K (.type (tyD d)) (.type "tuple") = some (dTuple d)
  | .none => kit_ty (a := "NoneType") (b := "tuple") (r := false) (by decide +kernel)
  | .bool _ => kit_ty (a := "bool") (b := "tuple") (r := false) (by decide +kernel)
  | .int _ => kit_ty (a := "int") (b := "tuple") (r := false) (by decide +kernel)
  | .str _ => kit_ty (a := "str") (b := "tuple") (r := false) (by decide +kernel)
  | .list _ => kit_ty (a := "list") (b := "tuple") (r := false) (by decide +kernel)
  | .tuple _ => kit_ty (a := "tuple") (b := "tuple") (r := true) (by decide +kernel)
  | .dict _ => kit_ty (a := "dict") (b := "tuple") (r := false) (by decide +kernel)
theorem is_seq {K : PySem.W.Frag} : ∀ d : PyData, PySem.W.kitAny K (.type (tyD d)) [.type "list", .type "tuple"] = some (dSeq d)
  | .none => kitAny_cons (is_list .none) (fun _ => kitAny_cons (is_tuple .none) (fun _ => kitAny_nil) (fun z => by cases z)) (fun z => by cases z)
  | .bool x => kitAny_cons (is_list (.bool x)) (fun _ => kitAny_cons (is_tuple (.bool x)) (fun _ => kitAny_nil) (fun z => by cases z)) (fun z => by cases z)
  | .int x => kitAny_cons (is_list (.int x)) (fun _ => kitAny_cons (is_tuple (.int x)) (fun _ => kitAny_nil) (fun z => by cases z)) (fun z => by cases z)
  | .str x => kitAny_cons (is_list (.str x)) (fun _ => kitAny_cons (is_tuple (.str x)) (fun _ => kitAny_nil) (fun z => by cases z)) (fun z => by cases z)
  | .list x => kitAny_cons (is_list (.list x)) (fun z => by cases z) (fun _ => rfl)
  | .tuple x => kitAny_cons (is_list (.tuple x)) (fun _ => kitAny_cons (is_tuple (.tuple x)) (fun z => by cases z) (fun _ => rfl)) (fun z => by cases z)
  | .dict x => kitAny_cons (is_list (.dict x)) (fun _ => kitAny_cons (is_tuple (.dict x)) (fun _ => kitAny_nil) (fun z => by cases z)) (fun z => by cases z)
/-- whole numbers, signs, forms, rows, things -/
def dWhole : PyData → Bool | .int _ => true | _ => false
def dSign : PyData → Bool | .int i => decide (0 ≤ i) && decide (i < 100) | _ => false
def dForm : PyData → Bool | .int i => decide (0 ≤ i) && decide (i < 5) | _ => false
def dItems : PyData → List PyData | .list ds => ds | .tuple ds => ds | _ => []
def dRow (d : PyData) : Bool := dSeq d && (dItems d).all dSign
def dThing (d : PyData) : Bool := dRow d && (decide (2 ≤ (dItems d).length) && (match dItems d with | x :: _ => dForm x | [] => false))
def spD (K : PySem.W.Frag) (f : PyData → Bool) : Sp := fun vs H Q _ => ∃ (v : V) (d : PyData), vs = [v] ∧ Da K H v d ∧ ∀ H', Same H H' → Q (.bl (f d)) H'

/-- a sequence of a known kind: a list (true), a tuple (false) -/
def SqB (K : PySem.W.Frag) (H : Hp) (a : Addr) (xs : List V) : Bool → Prop
  | true => SqL K H a xs
  | false => SqT K H a xs
theorem SqB.keep {K : PySem.W.Frag} {H H' : Hp} {a : Addr} {xs : List V} : ∀ {b : Bool}, SqB K H a xs b → Same H H' → SqB K H' a xs b
  | true, h, s => same_l s h
  | false, h, s => same_t s h
theorem Da.seq {K : PySem.W.Frag} {H : Hp} {v : V} {d : PyData} (h : Da K H v d) (e : dSeq d = true) : ∃ (a : Addr) (xs : List V) (b : Bool), v = .ref a ∧ DaAll K H xs (dItems d) ∧ SqB K H a xs b ∧ dList d = b ∧ dTuple d = !b := by
  cases h with
  | lst e1 a1 => exact ⟨_, _, true, rfl, a1, SqL.of e1, rfl, rfl⟩
  | tup e1 a1 => exact ⟨_, _, false, rfl, a1, SqT.of e1, rfl, rfl⟩
  | _ => cases e
theorem for_seq {K : PySem.W.Frag} {a : Addr} {xs : List V} {g : TG} {tb : TS} {D : Ends} {σ : L2.St} {H : Hp} (b : Bool) (Pv : Nat → L2.St → Hp → Prop) (h0 : Pv 0 σ H) (hl : ∀ i σ H, i ≤ xs.length → Pv i σ H → SqB K H a xs b)
    (hs : ∀ i x σ H, xs[i]? = some x → Pv i σ H → g x σ H fun σ2 H2 => tb { D with nx := Pv (i + 1), ct := Pv (i + 1), bk := D.nx } σ2 H2) (hd : ∀ σ H, Pv xs.length σ H → D.nx σ H) : tFor (iSeq K (tC (.ref a))) g tb D σ H := by
  cases b with
  | true => exact ⟨a, rfl, .inl ⟨⟨xs, hl 0 σ H (Nat.zero_le _) h0⟩, for_list Pv h0 hl hs hd⟩⟩
  | false => exact ⟨a, rfl, .inr ⟨⟨xs, hl 0 σ H (Nat.zero_le _) h0⟩, for_tup Pv h0 hl hs hd⟩⟩
theorem all_at {f : PyData → Bool} : ∀ {ds : List PyData}, (∀ (i : Nat) (d : PyData), ds[i]? = some d → f d = true) → ds.all f = true
  | [], _ => rfl
  | d :: ds, h => by
    rw [List.all_cons, h 0 d rfl, Bool.true_and]
    exact all_at fun i x e => h (i + 1) x e
theorem not_all {f : PyData → Bool} {ds : List PyData} {i : Nat} {d : PyData} (e : ds[i]? = some d) (h : f d = false) : ds.all f = false := by
  cases q : ds.all f with
  | false => rfl
  | true =>
    have z := List.all_eq_true.mp q d (List.mem_of_getElem? e)
    rw [h] at z
    cases z

/-! ### rows of signs, things -/
def toI : PyData → Int | .int i => i | _ => 0
def dInts (d : PyData) : List Int := (dItems d).map toI
theorem ints_of : ∀ {K : PySem.W.Frag} {H : Hp} {xs : List V} {ds : List PyData}, DaAll K H xs ds → ds.all dSign = true → xs = (ds.map toI).map V.int ∧ ds = (ds.map toI).map PyData.int ∧ Sgn (ds.map toI)
  | _, _, _, _, .nil, _ => ⟨rfl, rfl, fun _ h => nomatch h⟩
  | K, H, _, _, .cons (v := v) (d := d) (vs := vs) (ds := ds) hd ht, h => by
    rw [List.all_cons, Bool.and_eq_true] at h
    obtain ⟨e1, e2, e3⟩ := ints_of ht h.2
    cases d with
    | int i =>
      cases hd
      have hi : 0 ≤ i ∧ i < 100 := by
        have z : (decide (0 ≤ i) && decide (i < 100)) = true := h.1
        rw [Bool.and_eq_true, decide_eq_true_eq, decide_eq_true_eq] at z
        exact z
      refine ⟨by rw [List.map_cons, List.map_cons, ← e1]; rfl, by rw [List.map_cons, List.map_cons, ← e2]; rfl, fun z hz => ?_⟩
      rw [List.map_cons] at hz
      rcases List.mem_cons.mp hz with q | q
      · rw [q]
        exact hi
      · exact e3 z q
    | _ => cases h.1
theorem Da.row {K : PySem.W.Frag} {H : Hp} {v : V} {d : PyData} (h : Da K H v d) (e : dRow d = true) : ∃ (a : Addr) (b : Bool), v = .ref a ∧ SqB K H a ((dInts d).map V.int) b ∧ Sgn (dInts d) ∧ dItems d = (dInts d).map PyData.int ∧ dList d = b ∧ dTuple d = !b := by
  obtain ⟨e1, e2⟩ := Bool.and_eq_true_iff.mp e
  obtain ⟨a, xs, b, rfl, ha, hb, k1, k2⟩ := h.seq e1
  obtain ⟨z1, z2, z3⟩ := ints_of ha e2
  exact ⟨a, b, rfl, by rw [z1] at hb; exact hb, z3, z2, k1, k2⟩
theorem dInts_len (d : PyData) : (dInts d).length = (dItems d).length := List.length_map ..
/-- form, number, signs behind -/
theorem thing_parts {d : PyData} (e : dThing d = true) : dRow d = true ∧ ∃ (f n : Int) (r : List Int), dInts d = f :: n :: r ∧ 0 ≤ f ∧ f < 5 := by
  obtain ⟨e1, e2⟩ := Bool.and_eq_true_iff.mp e
  obtain ⟨e3, e4⟩ := Bool.and_eq_true_iff.mp e2
  have hl := of_decide_eq_true e3
  refine ⟨e1, ?_⟩
  cases hd : dItems d with
  | nil => rw [hd] at hl; cases hl
  | cons x xr =>
    rw [hd] at hl e4
    cases xr with
    | nil => exact absurd (show 2 ≤ 1 from hl) (by decide)
    | cons y r =>
      cases x with
      | int i =>
        have z : (decide (0 ≤ i) && decide (i < 5)) = true := e4
        rw [Bool.and_eq_true, decide_eq_true_eq, decide_eq_true_eq] at z
        exact ⟨i, toI y, r.map toI, by unfold dInts; rw [hd]; rfl, z.1, z.2⟩
      | _ => cases e4
def dFst (d : PyData) : Int := (dInts d).getD 0 0
def dSnd (d : PyData) : Int := (dInts d).getD 1 0
def shiftI (by_ : Int) (ns : List Int) : List Int := ns.map fun z => (z + by_) % 100
def dBody (d : PyData) : List Int := shiftI (-20 * dFst d) ((dInts d).drop 2)
def spShifted (K : PySem.W.Frag) : Sp := fun vs H Q _ => ∃ (a : Addr) (ns : List Int) (b : Bool) (by_ : Int), vs = [.ref a, .int by_] ∧ SqB K H a (ns.map V.int) b ∧ ns.length ≤ 1000000 ∧ ∀ p H', Same H H' → H' p = some (.tup ((shiftI by_ ns).map V.int)) → Q (.ref p) H'
/-- the error of the class at C with the value v leaves -/
def Out (E : XK) (H : Hp) (C : Addr) (v : V) : Prop := ∀ dd H', Same H H' → H' dd = some (.xd [(("value" : Str), v)]) → E (.ref C) (some dd) H'
theorem Out.new {E : XK} {H H1 : Hp} {C : Addr} {v : V} (o : Out E H C v) (s : Same H H1) {d : Addr} (n : H1 d = none) : E (.ref C) (some d) (upd H1 d (.xd [(("value" : Str), v)])) := o d _ (s.trans (same_new n)) upd_same
@[irreducible] def spThing1 (K : PySem.W.Frag) (C : Addr) (f : PyData → Int) : Sp := fun vs H Q E => ∃ (v : V) (d : PyData), vs = [v] ∧ Da K H v d ∧ (dThing d = true → ∀ H', Same H H' → Q (.int (f d)) H') ∧ (dThing d = false → Out E H C v)
@[irreducible] def spBodyOf (K : PySem.W.Frag) (C : Addr) : Sp := fun vs H Q E => ∃ (v : V) (d : PyData), vs = [v] ∧ Da K H v d ∧ (dItems d).length ≤ 1000000 ∧ (dThing d = true → ∀ p H', Same H H' → H' p = some (.tup ((dBody d).map V.int)) → Q (.ref p) H') ∧ (dThing d = false → Out E H C v)
@[irreducible] def spThingOf (K : PySem.W.Frag) (CF CS CR : Addr) : Sp := fun vs H Q E => ∃ (v1 v2 v3 : V) (d1 d2 d3 : PyData), vs = [v1, v2, v3] ∧ Da K H v1 d1 ∧ Da K H v2 d2 ∧ Da K H v3 d3 ∧ (dItems d3).length ≤ 1000000 ∧
  (dForm d1 = true → dSign d2 = true → dRow d3 = true → ∀ p H', Same H H' → H' p = some (.tup ((toI d1 :: toI d2 :: shiftI (20 * toI d1) (dInts d3)).map V.int)) → Q (.ref p) H') ∧
  (dForm d1 = false → Out E H CF v1) ∧ (dForm d1 = true → dSign d2 = false → Out E H CS v2) ∧ (dForm d1 = true → dSign d2 = true → dRow d3 = false → Out E H CR v3)
theorem spThing1_of {K : PySem.W.Frag} {C : Addr} {f : PyData → Int} {H : Hp} {Q : VK} {E : XK} {v : V} {d : PyData} (h : Da K H v d) (q : dThing d = true → ∀ H', Same H H' → Q (.int (f d)) H') (qe : dThing d = false → Out E H C v) : spThing1 K C f [v] H Q E := by
  unfold spThing1
  exact ⟨v, d, rfl, h, q, qe⟩
theorem spBodyOf_of {K : PySem.W.Frag} {C : Addr} {H : Hp} {Q : VK} {E : XK} {v : V} {d : PyData} (h : Da K H v d) (hl : (dItems d).length ≤ 1000000) (q : dThing d = true → ∀ p H', Same H H' → H' p = some (.tup ((dBody d).map V.int)) → Q (.ref p) H') (qe : dThing d = false → Out E H C v) : spBodyOf K C [v] H Q E := by
  unfold spBodyOf
  exact ⟨v, d, rfl, h, hl, q, qe⟩
theorem spThingOf_of {K : PySem.W.Frag} {CF CS CR : Addr} {H : Hp} {Q : VK} {E : XK} {v1 v2 v3 : V} {d1 d2 d3 : PyData} (h1 : Da K H v1 d1) (h2 : Da K H v2 d2) (h3 : Da K H v3 d3) (hl : (dItems d3).length ≤ 1000000)
    (q : dForm d1 = true → dSign d2 = true → dRow d3 = true → ∀ p H', Same H H' → H' p = some (.tup ((toI d1 :: toI d2 :: shiftI (20 * toI d1) (dInts d3)).map V.int)) → Q (.ref p) H')
    (qf : dForm d1 = false → Out E H CF v1) (qs : dForm d1 = true → dSign d2 = false → Out E H CS v2) (qr : dForm d1 = true → dSign d2 = true → dRow d3 = false → Out E H CR v3) : spThingOf K CF CS CR [v1, v2, v3] H Q E := by
  unfold spThingOf
  exact ⟨v1, v2, v3, d1, d2, d3, rfl, h1, h2, h3, hl, q, qf, qs, qr⟩
theorem lc_seq {K : PySem.W.Frag} {a : Addr} {xs : List V} {tl : TE} {j : Nat} {te : TE} {vs : List Nat} {σ : L2.St} {H1 : Hp} {Q : VK} (htl : ∀ R : VK, R (.ref a) H1 → tl σ H1 R) (b : Bool) (h1 : SqB K H1 a xs b) (hw : ∀ x, wipe ((wipe σ vs).set j (some x)) vs = wipe σ vs)
    (step : ∀ D, H1 D = none → ∃ Pv : Nat → Hp → Prop, Pv 0 (upd H1 D (.lst [])) ∧ (∀ i H, i ≤ xs.length → Pv i H → SqB K H a xs b) ∧
      (∀ i x H, xs[i]? = some x → Pv i H → te ((wipe σ vs).set j (some x)) H fun y H4 => ∃ acc, H4 D = some (.lst acc) ∧ acc.length < sizeLine ∧ Pv (i + 1) (upd H4 D (.lst (acc ++ [y])))) ∧
      ∀ H, Pv xs.length H → Q (.ref D) H) : tLc (iSeq K tl) (gName j) tYes te vs σ H1 Q := by
  refine htl _ ?_
  cases b with
  | true =>
    refine ⟨a, rfl, .inl ⟨⟨xs, h1⟩, fun D hD => ?_⟩⟩
    obtain ⟨Pv, p0, pl, ps, pd⟩ := step D hD
    exact lc_list Pv p0 pl (fun i x H hx hp => ⟨hw x, ps i x H hx hp⟩) pd
  | false =>
    refine ⟨a, rfl, .inr ⟨⟨xs, h1⟩, fun D hD => ?_⟩⟩
    obtain ⟨Pv, p0, pl, ps, pd⟩ := step D hD
    exact lc_tup Pv p0 pl (fun i x H hx hp => ⟨hw x, ps i x H hx hp⟩) pd
theorem st_ret1 {te : TE} {D : Ends} {σ : L2.St} {H : Hp} (h : te σ H D.rt) : tRet te D σ H := h
theorem st_set1 {te : TE} {i : Nat} {D : Ends} {σ : L2.St} {H : Hp} (h : te σ H fun v H1 => D.nx (σ.set i (some v)) H1) : tAsg te (gName i) D σ H := h
theorem st_seq1 {t u : TS} {D : Ends} {σ : L2.St} {H : Hp} (h : t { D with nx := u D } σ H) : tSeq t u D σ H := h
theorem cb1 {r : List V → Hp → VK → Prop} {ta : TE} {σ : L2.St} {H : Hp} {Q : VK} (h : ta σ H fun x H1 => r [x] H1 Q) : tCB r (tCons ta tNil) σ H Q := h
theorem go_var {i : Nat} {v : V} {σ : L2.St} {H : Hp} (e : σ[i]? = some (some v)) (R : VK) (h : R v H) : tVar i σ H R := ⟨v, e, h⟩
/-- a slice of a list or of a tuple -/
theorem sl_any {X : Cx} : SlR X (fun x lo hi H Q => rSlL X.K x lo hi H Q ∨ rSlA X.K x lo hi H Q) := sl_list.or sl_tupA

/-! ### tuples of ints: ==, != -/
theorem dp_ints {K : PySem.W.Frag} {H : Hp} : ∀ ns : List Int, DpAll K H (ns.map V.int) (ns.map PyData.int)
  | [] => .nil
  | n :: ns => .cons (.int n) (dp_ints ns)
theorem lay_ints : ∀ ns : List Int, PyData.canLayAll0 (ns.map PyData.int) = true
  | [] => rfl
  | n :: ns => by
    show (PyData.canLay0 (.int n) && PyData.canLayAll0 (ns.map PyData.int)) = true
    rw [lay_ints ns]
    rfl
theorem depth_ints : ∀ ns : List Int, PyData.depthAll (ns.map PyData.int) = 0
  | [] => rfl
  | n :: ns => by
    show max (PyData.depth (.int n)) (PyData.depthAll (ns.map PyData.int)) = 0
    rw [depth_ints ns]
    rfl
theorem shaped_tup (ns : List Int) : SeqAt.shaped (.tuple (ns.map PyData.int)) = true := by
  show (PyData.canLayAll0 (ns.map PyData.int) && decide (PyData.depthAll (ns.map PyData.int) + 1 ≤ 64)) = true
  rw [lay_ints, depth_ints]
  rfl
theorem eqv_ints : ∀ ms ns : List Int, PyData.eqvAll (ms.map PyData.int) (ns.map PyData.int) = decide (ms = ns)
  | [], [] => rfl
  | [], _ :: _ => rfl
  | _ :: _, [] => rfl
  | m :: ms, n :: ns => by
    show ((m == n) && PyData.eqvAll (ms.map PyData.int) (ns.map PyData.int)) = _
    rw [eqv_ints ms ns, Bool.eq_iff_iff]
    simp
def rEqT (K : PySem.W.Frag) : R2 := fun x y H Q => ∃ (a b : Addr) (ms ns : List Int), x = .ref a ∧ y = .ref b ∧ SqT K H a (ms.map V.int) ∧ SqT K H b (ns.map V.int) ∧ Q (.bl (decide (ms = ns))) H
def rNeT (K : PySem.W.Frag) : R2 := fun x y H Q => ∃ (a b : Addr) (ms ns : List Int), x = .ref a ∧ y = .ref b ∧ SqT K H a (ms.map V.int) ∧ SqT K H b (ns.map V.int) ∧ Q (.bl (!decide (ms = ns))) H
theorem op_eqT {X : Cx} (hu : X.A.units + 64 < cLine) : OpR X (compareOp .Eq) (rEqT X.K) := by
  rintro pins s σ H x y v u Q I rx ry ⟨a, b, ms, ns, rfl, rfl, h1, h2, q⟩
  refine op_eqD hu pins s σ H _ _ v u Q I rx ry ⟨.tuple (ms.map PyData.int), .tuple (ns.map PyData.int), .tup h1 (dp_ints ms), .tup h2 (dp_ints ns), shaped_tup ms, shaped_tup ns, ?_⟩
  have e : PyData.eqv (.tuple (ms.map PyData.int)) (.tuple (ns.map PyData.int)) = decide (ms = ns) := eqv_ints ms ns
  rw [e]
  exact q
theorem op_neT {X : Cx} (hu : X.A.units + 64 < cLine) : OpR X (compareOp .NotEq) (rNeT X.K) := by
  rintro pins s σ H x y v u Q I rx ry ⟨a, b, ms, ns, rfl, rfl, h1, h2, q⟩
  refine op_neD hu pins s σ H _ _ v u Q I rx ry ⟨.tuple (ms.map PyData.int), .tuple (ns.map PyData.int), .tup h1 (dp_ints ms), .tup h2 (dp_ints ns), shaped_tup ms, shaped_tup ns, ?_⟩
  have e : PyData.eqv (.tuple (ms.map PyData.int)) (.tuple (ns.map PyData.int)) = decide (ms = ns) := eqv_ints ms ns
  rw [e]
  exact q

/-! ### things that are known -/
theorem Sgn.cons {z : Int} {ns : List Int} (h0 : 0 ≤ z) (h1 : z < 100) (h : Sgn ns) : Sgn (z :: ns) := fun y hy => by
  rcases List.mem_cons.mp hy with e | e
  · rw [e]
    exact ⟨h0, h1⟩
  · exact h y e
theorem Sgn.shift (b : Int) (ns : List Int) : Sgn (shiftI b ns) := fun z hz => by
  obtain ⟨y, _, rfl⟩ := List.mem_map.mp hz
  omega
theorem shift_back {f : Int} {ns : List Int} (h : Sgn ns) : shiftI (-20 * f) (shiftI (20 * f) ns) = ns := by
  unfold shiftI
  rw [List.map_map]
  have e : ∀ z ∈ ns, ((fun z => (z + -20 * f) % 100) ∘ fun z => (z + 20 * f) % 100) z = id z := fun z hz => by
    have q := h z hz
    show ((z + 20 * f) % 100 + -20 * f) % 100 = z
    omega
  rw [List.map_congr_left e, List.map_id]
theorem shift_len (b : Int) (ns : List Int) : (shiftI b ns).length = ns.length := List.length_map ..
theorem toI_ints (ns : List Int) : (ns.map PyData.int).map toI = ns := by
  rw [List.map_map]
  have e : ∀ z ∈ ns, (toI ∘ PyData.int) z = id z := fun z _ => rfl
  rw [List.map_congr_left e, List.map_id]
theorem dInts_tup (ns : List Int) : dInts (.tuple (ns.map PyData.int)) = ns := toI_ints ns
theorem dInts_lst (ns : List Int) : dInts (.list (ns.map PyData.int)) = ns := toI_ints ns
theorem dSign_of {z : Int} (h0 : 0 ≤ z) (h1 : z < 100) : dSign (.int z) = true := by
  show (decide (0 ≤ z) && decide (z < 100)) = true
  rw [decide_eq_true h0, decide_eq_true h1]
  rfl
theorem dForm_of {z : Int} (h0 : 0 ≤ z) (h1 : z < 5) : dForm (.int z) = true := by
  show (decide (0 ≤ z) && decide (z < 5)) = true
  rw [decide_eq_true h0, decide_eq_true h1]
  rfl
theorem all_sign {ns : List Int} (h : Sgn ns) : (ns.map PyData.int).all dSign = true := by
  rw [List.all_map, List.all_eq_true]
  intro z hz
  exact dSign_of (h z hz).1 (h z hz).2
theorem dRow_tup {ns : List Int} (h : Sgn ns) : dRow (.tuple (ns.map PyData.int)) = true := all_sign h
theorem dRow_lst {ns : List Int} (h : Sgn ns) : dRow (.list (ns.map PyData.int)) = true := all_sign h
/-- a thing's ints -/
def thg (f n : Int) (bs : List Int) : List Int := f :: n :: shiftI (20 * f) bs
theorem thg_sgn {f n : Int} {bs : List Int} (f0 : 0 ≤ f) (f1 : f < 5) (n0 : 0 ≤ n) (n1 : n < 100) : Sgn (thg f n bs) := .cons f0 (by omega) (.cons n0 n1 (.shift _ _))
theorem dThing_thg {f n : Int} {bs : List Int} (f0 : 0 ≤ f) (f1 : f < 5) (n0 : 0 ≤ n) (n1 : n < 100) : dThing (.tuple ((thg f n bs).map PyData.int)) = true := by
  unfold dThing
  rw [dRow_tup (thg_sgn f0 f1 n0 n1), Bool.true_and]
  show (decide (2 ≤ ((shiftI (20 * f) bs).map PyData.int).length + 1 + 1) && dForm (.int f)) = true
  rw [dForm_of f0 f1, decide_eq_true (by omega)]
  rfl
theorem thg_len (f n : Int) (bs : List Int) : (thg f n bs).length = bs.length + 2 := by
  show (shiftI (20 * f) bs).length + 2 = _
  rw [shift_len]
theorem thg_ecut (f n : Int) (bs : List Int) : cutV ((thg f n bs).map V.int) (some 2) none = (shiftI (20 * f) bs).map V.int := by
  unfold cutV
  rw [show HT.sIx ((thg f n bs).map V.int).length 0 (some 2) = min 2 ((thg f n bs).map V.int).length from HT.sIx_nat _ 0 2, HT.sIx_none, List.length_map, thg_len, show min 2 (bs.length + 2) = 2 by omega]
  show List.take _ ((shiftI (20 * f) bs).map V.int) = _
  apply List.take_of_length_le
  rw [List.length_map, shift_len]
  omega
theorem thg_ncut (f n : Int) (bs : List Int) : ¬ (HT.sIx ((thg f n bs).map V.int).length 0 (some 2) = 0 ∧ HT.sIx ((thg f n bs).map V.int).length ((thg f n bs).map V.int).length none = ((thg f n bs).map V.int).length) := fun z => by
  have z1 := z.1
  rw [show HT.sIx ((thg f n bs).map V.int).length 0 (some 2) = min 2 ((thg f n bs).map V.int).length from HT.sIx_nat _ 0 2, List.length_map, thg_len] at z1
  omega
theorem thg_inj {f n g m : Int} {bs cs : List Int} (h : thg f n bs = thg g m cs) : f = g ∧ n = m := by
  injection h with h1 h2
  injection h2 with h3 _
  exact ⟨h1, h3⟩
section
variable {K : PySem.W.Frag} {H : Hp} {Q : VK} {E : XK} {C CF CS CR p : Addr} {f n : Int} {bs : List Int}
theorem da_thg (h : H p = some (.tup ((thg f n bs).map V.int))) : Da K H (.ref p) (.tuple ((thg f n bs).map PyData.int)) := .tup h (.ints _)
theorem is_thing_ok (f0 : 0 ≤ f) (f1 : f < 5) (n0 : 0 ≤ n) (n1 : n < 100) (h : H p = some (.tup ((thg f n bs).map V.int))) (q : ∀ H', Same H H' → Q (.bl true) H') : spD K dThing [.ref p] H Q E :=
  ⟨_, _, rfl, da_thg h, fun H' s => by rw [dThing_thg f0 f1 n0 n1]; exact q H' s⟩
theorem form_ok (f0 : 0 ≤ f) (f1 : f < 5) (n0 : 0 ≤ n) (n1 : n < 100) (h : H p = some (.tup ((thg f n bs).map V.int))) (q : ∀ H', Same H H' → Q (.int f) H') : spThing1 K C dFst [.ref p] H Q E :=
  spThing1_of (da_thg h) (fun _ H' s => by
    have e : dFst (.tuple ((thg f n bs).map PyData.int)) = f := by unfold dFst; rw [dInts_tup]; rfl
    rw [e]
    exact q H' s) fun z => by (rw [dThing_thg f0 f1 n0 n1] at z; cases z)
theorem number_ok (f0 : 0 ≤ f) (f1 : f < 5) (n0 : 0 ≤ n) (n1 : n < 100) (h : H p = some (.tup ((thg f n bs).map V.int))) (q : ∀ H', Same H H' → Q (.int n) H') : spThing1 K C dSnd [.ref p] H Q E :=
  spThing1_of (da_thg h) (fun _ H' s => by
    have e : dSnd (.tuple ((thg f n bs).map PyData.int)) = n := by unfold dSnd; rw [dInts_tup]; rfl
    rw [e]
    exact q H' s) fun z => by (rw [dThing_thg f0 f1 n0 n1] at z; cases z)
theorem body_ok (f0 : 0 ≤ f) (f1 : f < 5) (n0 : 0 ≤ n) (n1 : n < 100) (hs : Sgn bs) (hl : bs.length ≤ 999000) (h : H p = some (.tup ((thg f n bs).map V.int))) (q : ∀ p' H', Same H H' → H' p' = some (.tup (bs.map V.int)) → Q (.ref p') H') : spBodyOf K C [.ref p] H Q E :=
  spBodyOf_of (da_thg h) (by
    show ((thg f n bs).map PyData.int).length ≤ _
    rw [List.length_map, thg_len]
    omega) (fun _ p' H' s e => by
    have eb : dBody (.tuple ((thg f n bs).map PyData.int)) = bs := by
      unfold dBody dFst
      rw [dInts_tup]
      show shiftI (-20 * f) (shiftI (20 * f) bs) = bs
      exact shift_back hs
    rw [eb] at e
    exact q p' H' s e) fun z => by (rw [dThing_thg f0 f1 n0 n1] at z; cases z)
theorem thing_ok (f0 : 0 ≤ f) (f1 : f < 5) (n0 : 0 ≤ n) (n1 : n < 100) (hs : Sgn bs) (hl : bs.length ≤ 1000000) (h : H p = some (.tup (bs.map V.int))) (q : ∀ p' H', Same H H' → H' p' = some (.tup ((thg f n bs).map V.int)) → Q (.ref p') H') :
    spThingOf K CF CS CR [.int f, .int n, .ref p] H Q E :=
  spThingOf_of (d3 := .tuple (bs.map PyData.int)) (.int f) (.int n) (.tup h (.ints bs)) (by
    show (bs.map PyData.int).length ≤ _
    rw [List.length_map]
    exact hl) (fun _ _ _ p' H' s e => by
    rw [dInts_tup] at e
    exact q p' H' s e) (fun z => by (rw [dForm_of f0 f1] at z; cases z)) (fun _ z => by (rw [dSign_of n0 n1] at z; cases z)) fun _ _ z => by (rw [dRow_tup hs] at z; cases z)
end

theorem TapeAt.mut {H : Hp} {t c p : Addr} {o : HO} (h : TapeAt H t c) (n : p ≠ t ∧ p ≠ c) : TapeAt (upd H p o) t c := by
  obtain ⟨T, e1, ys, q, r, m, k, rfl, e2, h⟩ := h
  exact ⟨_, by rw [upd_ne n.1.symm]; exact e1, ys, q, r, m, k, rfl, by rw [upd_ne n.2.symm]; exact e2, h⟩
theorem TapeAt.tup_ne {H : Hp} {t c p : Addr} {xs : List V} (h : TapeAt H t c) (e : H p = some (.tup xs)) : p ≠ t := fun z => by
  obtain ⟨T, e1, _⟩ := h
  rw [z, e1] at e
  cases e
theorem rep_len {α : Type} (xs : List α) : ∀ k : Nat, (List.replicate k xs).flatten.length = k * xs.length
  | 0 => by simp
  | k + 1 => by
    rw [List.replicate_succ, List.flatten_cons, List.length_append, rep_len xs k, Nat.succ_mul, Nat.add_comm]
theorem erase_map {α β : Type} (f : α → β) : ∀ (l : List α) (k : Nat), (l.map f).eraseIdx k = (l.eraseIdx k).map f
  | [], _ => rfl
  | _ :: _, 0 => rfl
  | x :: l, k + 1 => by
    show f x :: (l.map f).eraseIdx k = f x :: (l.eraseIdx k).map f
    rw [erase_map f l k]
theorem erase_perm {α : Type} : ∀ {l : List α} {k : Nat} {x : α}, l[k]? = some x → (x :: l.eraseIdx k).Perm l
  | [], k, x, h => by simp at h
  | a :: l, 0, x, h => by
    have e : a = x := Option.some.inj h
    rw [e]
    exact .refl _
  | a :: l, k + 1, x, h => by
    have ih := erase_perm (l := l) (k := k) (x := x) h
    show (x :: a :: l.eraseIdx k).Perm (a :: l)
    exact (List.Perm.swap a x _).trans (ih.cons a)
end Fd

set_option maxRecDepth 100000
set_option maxHeartbeats 2000000
namespace Fd
open PySem PySem.Spec PyProof.Rows L2

/-! ### data as it lies in the real heap, and what repr writes of it -/
section
variable {P : Program} {w : World} {K : PySem.W.Frag} {H : Hp} {h : Heap}
theorem dict0_at (hok : HOk P w H h) {a : Addr} (e : H a = some (.dK [])) : (a == sysModules) = false ∧ ∃ o es n, h.get? a = some o ∧ o.cls = .type "dict" ∧ o.data = .dict es n ∧ es.toList = [] := by
  have z : ObjOk P w H h a (.dK []) := hok a _ e
  obtain ⟨_, ns, vs, kv, o, es, n, g, ed, dd, ko, pr, nd⟩ := z
  have e0 : vs = [] := by
    cases kv
    rfl
  subst e0
  refine ⟨ns, o, es, n, g, ed.1, dd, ?_⟩
  generalize es.toList = l at pr
  cases pr
  rfl
mutual
theorem Da.reads (hok : HOk P w H h) : ∀ (d : PyData) (v : V) (u : Value), Da K H v d → RelV v u → ∃ as, Reads h u d as
  | .none, _, u, x, r => by
    cases x
    obtain rfl : u = Value.none := r
    exact ⟨_, .none⟩
  | .bool _, _, u, x, r => by
    cases x
    obtain rfl : u = Value.bool _ := r
    exact ⟨_, .bool _⟩
  | .int _, _, u, x, r => by
    cases x
    obtain ⟨t, rfl⟩ : ∃ t, u = Value.int _ t := r
    exact ⟨_, .int _ _⟩
  | .str _, _, u, x, r => by
    cases x
    obtain ⟨t, rfl⟩ : ∃ t, u = Value.str _ t := r
    exact ⟨_, .str _ _⟩
  | .list ds, _, u, x, r => by
    cases x with
    | @lst a xs _ e l =>
      obtain rfl : u = Value.ref a := r
      have z : ObjOk P w H h a (.lst xs) := hok a _ e
      obtain ⟨_, its, n, rv, g⟩ := z
      obtain ⟨as, q⟩ := DaAll.reads hok ds xs its l rv
      exact ⟨_, .list g rfl rfl q⟩
  | .tuple ds, _, u, x, r => by
    cases x with
    | @tup a xs _ e l =>
      obtain rfl : u = Value.ref a := r
      have z : ObjOk P w H h a (.tup xs) := hok a _ e
      obtain ⟨_, its, rv, o, g, c, n, dd⟩ := z
      obtain ⟨as, q⟩ := DaAll.reads hok ds xs its l rv
      exact ⟨_, .tuple g c dd q⟩
  | .dict ds, _, u, x, r => by
    cases x with
    | @dic a e =>
      obtain rfl : u = Value.ref a := r
      obtain ⟨_, o, es, n, g, c, dd, el⟩ := dict0_at hok e
      refine ⟨_, .dict g c dd (as := []) (bs := []) ?_ ?_⟩ <;> (rw [el]; exact .nil)
theorem DaAll.reads (hok : HOk P w H h) : ∀ (ds : List PyData) (vs : List V) (us : List Value), DaAll K H vs ds → Vals vs us → ∃ as, ReadsAll h us ds as
  | [], _, us, x, r => by
    cases x
    cases r
    exact ⟨_, .nil⟩
  | d :: ds, _, us, x, r => by
    cases x with
    | cons x1 x2 =>
      cases r with
      | cons r1 r2 =>
        obtain ⟨as, q⟩ := Da.reads hok d _ _ x1 r1
        obtain ⟨bs, q2⟩ := DaAll.reads hok ds _ _ x2 r2
        exact ⟨_, .cons q q2⟩
end
theorem most_cons {a : Addr} {d : PyData} {as bs : List Addr} {n : Nat} (r : Reads h (.ref a) d as) (hn : d.depth = n + 1) (hb : ReadAtMost h n bs) : ReadAtMost h d.depth (a :: bs) ∧ a ∉ bs :=
  ⟨ReadAtMost.cons r (by omega) hb, not_mem_of_deeper r (by omega) hb⟩
mutual
theorem Da.repr (hok : HOk P w H h) : ∀ (d : PyData) (v : V) (u : Value), Da K H v d → RelV v u → d.showable = true → d.shown.length ≤ sizeLine → ∃ bs, ReadAtMost h d.depth bs ∧ ReprK P w bs h d.depth u d.shown
  | .none, _, u, x, r, _, _ => by
    cases x
    obtain rfl : u = Value.none := r
    refine ⟨[], nofun, ?_⟩
    rw [PyData.shown]
    exact .of_is .none _ _ _
  | .bool b, _, u, x, r, _, _ => by
    cases x
    obtain rfl : u = Value.bool _ := r
    refine ⟨[], nofun, ?_⟩
    rw [PyData.shown]
    exact .of_is (.bool b) _ _ _
  | .int i, _, u, x, r, hs, _ => by
    cases x
    obtain ⟨t, rfl⟩ : ∃ t, u = Value.int _ t := r
    refine ⟨[], nofun, ?_⟩
    rw [PyData.shown]
    exact .of_is (.int t (by simpa [PyData.showable] using hs)) _ _ _
  | .str y, _, u, x, r, _, hz => by
    cases x
    obtain ⟨t, rfl⟩ : ∃ t, u = Value.str _ t := r
    refine ⟨[], nofun, ?_⟩
    rw [PyData.shown] at hz ⊢
    exact .of_is (.str y t hz) _ _ _
  | .list ds, v, u, x, r, hs, hz => by
    obtain ⟨as, rd⟩ := Da.reads hok _ v u x r
    cases x with
    | @lst a xs _ e l =>
      obtain rfl : u = Value.ref a := r
      have z : ObjOk P w H h a (.lst xs) := hok a _ e
      obtain ⟨_, its, n, rv, g⟩ := z
      rw [PyData.shown] at hz
      obtain ⟨bs, hb, hk⟩ := DaAll.repr hok ds xs its l rv (by simpa [PyData.showable] using hs) fun t ht => Nat.le_trans (listText_mem_le ht) hz
      have m := most_cons rd (n := PyData.depthAll ds) (by simp only [PyData.depth]) hb
      refine ⟨a :: bs, m.1, ?_⟩
      rw [PyData.shown, PyData.depth]
      cases its with
      | nil =>
        have e0 : ds = [] := by
          have z1 := l.len
          have z2 := Vals.length rv
          exact List.eq_nil_of_length_eq_zero (by rw [← z1, z2]; rfl)
        subst e0
        rw [PyData.shownAll, listText_nil]
        exact ReprK.listEmpty g rfl rfl
      | cons y its => exact ReprK.list g rfl rfl m.2 (by rw [hk.length_eq]; simp) fun i t e => hk.item i t (by simpa using e)
  | .tuple ds, v, u, x, r, hs, hz => by
    obtain ⟨as, rd⟩ := Da.reads hok _ v u x r
    cases x with
    | @tup a xs _ e l =>
      obtain rfl : u = Value.ref a := r
      have z : ObjOk P w H h a (.tup xs) := hok a _ e
      obtain ⟨_, its, rv, o, g, c, n, dd⟩ := z
      rw [PyData.shown] at hz
      obtain ⟨bs, hb, hk⟩ := DaAll.repr hok ds xs its l rv (by simpa [PyData.showable] using hs) fun t ht => Nat.le_trans (tupleText_mem_le ht) hz
      have m := most_cons rd (n := PyData.depthAll ds) (by simp only [PyData.depth]) hb
      refine ⟨a :: bs, m.1, ?_⟩
      rw [PyData.shown, PyData.depth]
      exact ReprK.tuple g c dd m.2 hk
  | .dict ds, v, u, x, r, hs, hz => by
    obtain ⟨as, rd⟩ := Da.reads hok _ v u x r
    cases x with
    | @dic a e =>
      obtain rfl : u = Value.ref a := r
      obtain ⟨ns, o, es, n, g, c, dd, el⟩ := dict0_at hok e
      have m := most_cons rd (n := PyData.depthKv []) (bs := []) (by simp only [PyData.depth]) nofun
      refine ⟨[a], m.1, ?_⟩
      rw [PyData.shown, PyData.depth]
      exact ReprK.dict g c dd ns m.2 (by rw [el]; exact .nil)
theorem DaAll.repr (hok : HOk P w H h) : ∀ (ds : List PyData) (vs : List V) (us : List Value), DaAll K H vs ds → Vals vs us → PyData.showableAll ds = true → (∀ t ∈ PyData.shownAll ds, t.length ≤ sizeLine) →
    ∃ bs, ReadAtMost h (PyData.depthAll ds) bs ∧ ReprAllK P w bs h (PyData.depthAll ds) us (PyData.shownAll ds)
  | [], _, us, x, r, _, _ => by
    cases x
    cases r
    refine ⟨[], nofun, ?_⟩
    rw [PyData.shownAll]
    exact .nil
  | d :: ds, _, us, x, r, hs, hz => by
    cases x with
    | cons x1 x2 =>
      cases r with
      | cons r1 r2 =>
        rw [PyData.shownAll] at hz ⊢
        rw [PyData.showableAll, Bool.and_eq_true] at hs
        obtain ⟨bs, q1, q2⟩ := Da.repr hok d _ _ x1 r1 hs.1 (hz _ List.mem_cons_self)
        obtain ⟨cs, q3, q4⟩ := DaAll.repr hok ds _ _ x2 r2 hs.2 fun t ht => hz t (List.mem_cons_of_mem _ ht)
        rw [PyData.depthAll]
        refine ⟨bs ++ cs, (q1.mono (Nat.le_max_left _ _)).append (q3.mono (Nat.le_max_right _ _)), .cons ((q2.more fun b hb => List.mem_append_left _ hb).level_le (Nat.le_max_left _ _)) (q4.more_le (fun b hb => List.mem_append_right _ hb) (Nat.le_max_right _ _))⟩
end
/-- by which slot a thing made of data shows itself -/
theorem Da.shows (hok : HOk P w H h) {a : Addr} {d : PyData} (x : Da K H (.ref a) d) (hs : d.showable = true) (hz : d.shown.length ≤ sizeLine) : ∃ T idr, ShowsBy P w h a d T idr := by
  obtain ⟨as, rd⟩ := Da.reads hok d _ (.ref a) x rfl
  cases x with
  | @lst _ xs ds e l =>
    have z : ObjOk P w H h a (.lst xs) := hok a _ e
    obtain ⟨_, its, n, rv, g⟩ := z
    rw [PyData.shown] at hz
    obtain ⟨bs, hb, hk⟩ := DaAll.repr hok ds xs its l rv (by simpa [PyData.showable] using hs) fun t ht => Nat.le_trans (listText_mem_le ht) hz
    have m := most_cons rd (n := PyData.depthAll ds) (by simp only [PyData.depth]) hb
    refine ⟨"list", _, F.slot_list_repr.toG, F.slot_list_str, F.slot_list_format, fun s k => ⟨_, k _ _ g, rfl⟩, fun A E s Q hg hu k hQ => ?_⟩
    rw [PyData.depth] at hu
    rw [PyData.shown] at hQ
    cases its with
    | nil =>
      have e0 : ds = [] := by
        have z1 := l.len
        have z2 := Vals.length rv
        exact List.eq_nil_of_length_eq_zero (by rw [← z1, z2]; rfl)
      subst e0
      rw [PyData.shownAll, listText_nil] at hQ
      exact call_list_repr_empty ⟨_, k _ _ g, rfl⟩ (k _ _ g) rfl (hQ s.heap _ _ fun _ _ e => e)
    | cons y its => exact call_list_reprK g rfl rfl m.2 (by rw [hk.length_eq]; simp) (fun i t e => hk.item i t (by simpa using e)) hg (fun b _ => Clear.nil b) hu k hQ hz
  | @tup _ xs ds e l =>
    have z : ObjOk P w H h a (.tup xs) := hok a _ e
    obtain ⟨_, its, rv, o, g, c, n, dd⟩ := z
    rw [PyData.shown] at hz
    obtain ⟨bs, hb, hk⟩ := DaAll.repr hok ds xs its l rv (by simpa [PyData.showable] using hs) fun t ht => Nat.le_trans (tupleText_mem_le ht) hz
    have m := most_cons rd (n := PyData.depthAll ds) (by simp only [PyData.depth]) hb
    refine ⟨"tuple", _, F.slot_tuple_repr, F.slot_tuple_str, F.slot_tuple_format, fun s k => ⟨_, k _ _ g, c⟩, fun A E s Q hg hu k hQ => ?_⟩
    rw [PyData.depth] at hu
    rw [PyData.shown] at hQ
    exact call_tuple_reprK g c dd m.2 hk hg (fun b _ => Clear.nil b) hu k hQ hz
  | @dic _ e =>
    obtain ⟨ns, o, es, n, g, c, dd, el⟩ := dict0_at hok e
    have m := most_cons rd (n := PyData.depthKv []) (bs := []) (by simp only [PyData.depth]) nofun
    rw [PyData.shown] at hz
    refine ⟨"dict", _, F.slot_dict_repr, F.slot_dict_str, F.slot_dict_format, fun s k => ⟨_, k _ _ g, c⟩, fun A E s Q hg hu k hQ => ?_⟩
    rw [PyData.depth] at hu
    rw [PyData.shown] at hQ
    exact call_dict_reprK g c dd ns m.2 (by rw [el]; exact .nil) hg (fun b _ => Clear.nil b) hu k hQ hz
end
/-- repr(e) of data -/
def rRepr (K : PySem.W.Frag) : List V → Hp → VK → Prop := fun xs H Q => ∃ (v : V) (d : PyData), xs = [v] ∧ Da K H v d ∧ d.showable = true ∧ d.shown.length ≤ sizeLine ∧ d.depth ≤ 50 ∧ Q (.str d.shown) H
theorem call_repr {X : Cx} (hg : X.A.guards = some []) (hu : X.A.units + 64 < cLine) : CallR X (.builtin "repr") (rRepr X.K) := by
  intro pins s σ H xs us Q I r ⟨v, d, e, x, hs, hz, hd, q⟩
  subst e
  obtain ⟨u, rfl, ru⟩ := vals1 r
  have byref : ∀ {a : Addr}, v = .ref a → wpAny (model X.prog X.w) X.A (call (.builtin "repr") [u]) (EP X pins σ Q) X.xe s := fun {a} e => by
    subst e
    obtain rfl : u = Value.ref a := ru
    obtain ⟨T, idr, S⟩ := Da.shows I.hok x hs hz
    refine call_repr_slot (by omega) (S.typeIs s fun _ _ e => e) S.slotRepr (S.call X.A.in1 X.xe s _ hg (by show X.A.units + 1 + d.depth < cLine; omega) (fun _ _ e => e) fun h' u tk hk => ⟨_, _, rfl, ?_⟩)
    exact ⟨.str d.shown, H, I.kept (t' := tk) hk, ⟨_, rfl⟩, q⟩
  cases x with
  | non =>
    obtain rfl : u = Value.none := ru
    rw [PyData.shown] at q
    exact PySem.P.repr_of_none ⟨.str _, H, I.tok _, ⟨_, rfl⟩, q⟩
  | bl b =>
    obtain rfl : u = Value.bool b := ru
    rw [PyData.shown] at q
    exact PySem.P.repr_of_bool ⟨.str _, H, I.tok _, ⟨_, rfl⟩, q⟩
  | int i =>
    obtain ⟨t, rfl⟩ : ∃ t, u = Value.int i t := ru
    rw [PyData.shown] at q
    exact PySem.P.repr_of_int (by simpa [PyData.showable] using hs) ⟨.str _, H, I.tok _, ⟨_, rfl⟩, q⟩
  | str y =>
    obtain ⟨t, rfl⟩ : ∃ t, u = Value.str y t := ru
    rw [PyData.shown] at q hz
    exact PySem.P.repr_of_str ⟨.str _, H, I.tok _, ⟨_, rfl⟩, q⟩ hz
  | lst e l => exact byref rfl
  | tup e l => exact byref rfl
  | dic e => exact byref rfl
end Fd

set_option maxRecDepth 100000
set_option maxHeartbeats 2000000
namespace Fd
open PySem PySem.Spec PyProof.Rows L2

/-! ### a def that is called where no repr runs -/
structure FnG (P : Program) (w : World) (K : PySem.W.Frag) (mg : Str → Option Value) (base : Heap)
    (k : Nat) (f : Addr) (fd : FuncData) (ps : List Str) (sp : Sp) : Prop where
  len : ∀ vs H Q E, sp vs H Q E → vs.length = ps.length
  run : ∀ (A : Around) (out : List Env) (s : Shared) (H : Hp) (args : Args) (us : List Value) (vs : List V) (Q : VK) (E : XK),
    A.guards = some [] → Room k A → Env0 P w K mg base A out s H →
    BindsTo s fd args (ps.zip us) → Vals vs us → sp vs H Q E →
    codeAny (model P w) A (.call (.ref f) args) (CR (L2.CX P w) out P w H s Q E) s
section
variable {P : Program} {w : World} {K : PySem.W.Frag} {mg : Str → Option Value} {base : Heap}
theorem FnG.of {k : Nat} {f : Addr} {fd : FuncData} {ps : List Str} {sp : Sp}
    (F : FnOk P w K mg base (L2.CX P w) k f fd ps sp) : FnG P w K mg base k f fd ps sp :=
  ⟨F.len, fun A out s H args us vs Q E _ hr => F.run A out s H args us vs Q E hr⟩
/-- its body as a term of rules, read where no repr runs -/
theorem fun_okG {x qual : Str} {st : Stmt} {f : Addr} {fd : FuncData} {N ps : List Str} {k : Nat} {sp : Sp}
    (F : Fun K x qual st f fd) (S : FnScope N ps (defScope st))
    (len : ∀ vs H Q E, sp vs H Q E → vs.length = ps.length)
    (body : ∀ (cdv : Value) (A : Around) (out : List Env) (s : Shared) (H : Hp) (vs : List V) (Q : VK) (E : XK),
      A.guards = some [] → Room k (A.deeper (envOfC qual (defScope st) s.heap.objs.size f cdv)) → sp vs H Q E →
      ∃ t, PSs (cxOf (L2.CX P w) P w K mg base N qual (defScope st) f cdv A out s H E) (defBody st) t ∧
        t { nx := fun _ H' => Q .non H', rt := Q } (start N vs) H) :
    FnG P w K mg base (k + 1) f fd ps sp := by
  obtain ⟨oc, od, kV, doc, pm, an, cdv, ct, osl, e, lk, hcd⟩ := F.ex
  subst e
  constructor
  · exact len
  intro A out s H args us vs Q E hg hr e0 hb r hsp
  have hl := len _ _ _ _ hsp
  have inK : K.In s.heap := PySem.W.Frag.In.keeps e0.mod.kin fun b o z => (e0.bs b o z).1
  have lim : s.heap.NoLimit := Heap.NoLimit.keeps e0.mod.nolimit fun b o z => (e0.bs b o z).1
  have kinds : ∀ y ∈ ps.zip us, (defScope st).names.lookup y.1 = some .local ∨
      ((defScope st).names.lookup y.1 = some .cell ∧
        ((cellsFrom (s.heap.objs.size + 1) (defScope st).names []).lookup y.1).isSome = true) := by
    rintro ⟨n, v⟩ hy
    have hn := S.par n (List.of_mem_zip hy).1
    cases hn with
    | inl q => exact .inl q
    | inr q => exact .inr ⟨q, PySem.W.cellsFrom_some _ _ _ (.inl q)⟩
  refine codeAny_call_function hr.depth (inK _ _ lk) rfl S.co S.gen rfl
    (PySem.W.codeRec_of inK hcd) (hb _ _ _ _ ?_)
  refine wpAny_newFunctionEnv_cells S.kind kinds ?_
  intro env he s1 x
  subst he
  constructor
  · exact Heap.NoLimit.keeps lim x.toInCall.keep
  refine codeAny_func ?_
  obtain ⟨t, ht, hq⟩ := body cdv A out s H vs Q E hg (Room.deeper hr _) hsp
  have I := inv_start (f := f) (cd := cdv) (E := E) (CX := L2.CX P w) S hr.hd e0 hl r x
  refine wpAny_mono (ht.run [] s1 (start N vs) H _ I hq) ?_ ?_
  · rintro fl s' hs
    cases fl with
    | next =>
      obtain ⟨σ', H', J, q⟩ := hs
      exact ⟨V.non, H', J.os, J.bare, J.base, J.hok, rfl, q⟩
    | ret u =>
      obtain ⟨v, σ', H', J, rv, q⟩ := hs
      exact ⟨v, H', J.os, J.bare, J.base, J.hok, rv, q⟩
    | brk =>
      obtain ⟨_, _, _, q⟩ := hs
      exact q.elim
    | cont =>
      obtain ⟨_, _, _, q⟩ := hs
      exact q.elim
  · exact fun e s' hs => hs
end
section
variable {X : Cx} {k : Nat} {x : Str} {f : Addr} {fd : FuncData} {ps : List Str} {sp : Sp} {E : XK} {e : Expr} {es : List Expr} {t : TA} {p pos : Pos}
theorem run_fnG {pins : List (Addr × Obj)} {σ : L2.St} {H : Hp} {s : Shared} {Q : VK} {us : List Value} {vs : List V}
    (F : FnG X.prog X.w X.K X.mg X.base k f fd ps sp) (gd : X.A.guards = some []) (hr : Room k X.A)
    (hb : Binds X.K fd ps []) (hx : Passes (L2.CX X.prog X.w) X E) (I : Inv X pins σ H s) (r : Vals vs us)
    (h : sp vs H Q E) : wpAny (model X.prog X.w) X.A (call (.ref f) us) (EP X pins σ Q) X.xe s := by
  have hl : us.length = ps.length := by
    rw [← r.length]
    exact F.len _ _ _ _ h
  have hb' := hb s us I.kIn (by rw [List.append_nil]; exact hl)
  rw [List.append_nil] at hb'
  refine wpAny_call (codeAny_mono (F.run X.A X.stack s H ⟨us, []⟩ us vs Q E gd hr I.env0 hb' r h) ?_)
  rintro (e | fl) s' hq
  · exact hx pins σ H s e s' I hq
  · cases fl with
    | ret u => exact I.after hq
    | next => exact hq.elim
    | brk => exact hq.elim
    | cont => exact hq.elim
/-- the def called x keeps sp where no repr runs -/
structure PrG (P : Program) (w : World) (K : PySem.W.Frag) (mg : Str → Option Value) (base : Heap)
    (k : Nat) (x : Str) (ps : List Str) (sp : Sp) : Prop where
  ex : ∃ (f : Addr) (fd : FuncData), mg x = some (.ref f) ∧ PySem.W.keepIn K (.ref f) = true ∧ Binds K fd ps [] ∧
    FnG P w K mg base k f fd ps sp
theorem pe_callG (C : PrG X.prog X.w X.K X.mg X.base k x ps sp) (gd : X.A.guards = some []) (hr : Room k X.A) (hg : Gl X x)
    (hx : Passes (L2.CX X.prog X.w) X E) (ha : PA X (e :: es) t) (hdb : (x == ("__debug__" : Str)) = false := by decide)
    (he : starEach (e :: es) X.env = (false, eval e X.env) :: starEach es X.env := by rfl)
    (hpl : (backTo pos (starEach es X.env)).any (·.1) = false := by rfl) :
    PE X (.Call (.Name x p) (e :: es) [] pos) (tCall sp [] E t) := by
  obtain ⟨f, fd, g, kp, b, F⟩ := C.ex
  constructor
  intro pins s σ H Q I h
  refine wpAny_Call_Name_kw (ld_glob I hg g ?_ hdb)
  refine PySem.W.callWith_K (h₀ := X.base) I.ok.mod.kin kp (thn (ha.run pos pins s σ H _ I h) ?_) he hpl
  rintro us s1 ⟨vs, H1, I1, r, q⟩
  rw [List.append_nil] at q
  exact ⟨I1.kIn, run_fnG F gd hr b hx I1 r q⟩
end
theorem Dx.prG {P : Program} {w : World} {K : PySem.W.Frag} {mg : Str → Option Value} {base : Heap} {x : Str} {st : Stmt} {N ps : List Str} {k : Nat} {sp : Sp}
    (D : Dx K mg x st ps) (S : FnScope N ps (defScope st)) (len : ∀ vs H Q E, sp vs H Q E → vs.length = ps.length)
    (body : ∀ (f : Addr) (cdv : Value) (A : Around) (out : List Env) (s : Shared) (H : Hp) (vs : List V) (Q : VK) (E : XK), A.guards = some [] →
      Room k (A.deeper (envOfC x (defScope st) s.heap.objs.size f cdv)) → sp vs H Q E →
      ∃ t, PSs (cxOf (L2.CX P w) P w K mg base N x (defScope st) f cdv A out s H E) (defBody st) t ∧
        t { nx := fun _ H' => Q .non H', rt := Q } (start N vs) H) : PrG P w K mg base (k + 1) x ps sp := by
  obtain ⟨f, fd, g, b, F⟩ := D.ex
  exact ⟨f, fd, g, F.kp, b, fun_okG F S len fun cdv A out s H vs Q E hg hr h => body f cdv A out s H vs Q E hg hr h⟩

/-! ### the head, for a law that calls repr -/
section
variable {P : Program} {w : World} {K : PySem.W.Frag} {mg mb : Str → Option Value} {k : Nat} {fa a : Addr} {fd : FuncData} {x : Str} {sp : Sp} {s : Shared} {vs : List Value} {ns : List Int}
/-- what is asked of the call -/
def Told (P : Program) (w : World) (fa a : Addr) (s : Shared) : Prop :=
  codeAny (model P w) callerA (.call (.ref fa) ⟨[.ref a], []⟩)
    (fun r s' => r = .ok (.ret (.bool true)) ∧ OldK s.heap s'.heap ∧ s'.os = s.os ∧ AllBare s'.gens) s
theorem told_core (KX : K.In s.heap) (hns : s.heap.Ns mainGlobals mg) (hb : s.heap.Ns builtinsNs mb)
    (hbb : ∀ y : Str, y ≠ "__name__" → mb y = bootBuiltins y) (hlim : s.heap.NoLimit) (hg : s.gens = #[])
    (ha : s.heap.get? a = some { cls := .type "list", data := .seq vs.toArray }) (hr : Room k callerA)
    (F : ∀ base : Heap, K.In base → base.Ns mainGlobals mg → FnG P w K mg base k fa fd [x] sp)
    (hbind : ∀ (t : Shared) (u : Value), BindsTo t fd ⟨[u], []⟩ [(x, u)]) {H : Hp} (hO : Only H)
    (hs : sp [.ref a] H (fun v _ => v = .bl true) fun _ _ _ => False) (hok : HOk P w H s.heap)
    (hA : ∀ b, H b ≠ none → b = a) (hK : H a ≠ none → K.lookup a = none) : Told P w fa a s := by
  have hid : ∀ {b : Addr} {o : Obj}, s.heap.get? b = some o → b ≠ a → (hidT s.heap H).get? b = some o := fun {b o} e n =>
    hidT_get e (Classical.byContradiction fun z => n (hA b z))
  have notA : ∀ {b : Addr} {o : Obj} {es : Array DictEntry} {ep : Nat}, s.heap.get? b = some o → o.data = .dict es ep → b ≠ a := by
    intro b o es ep e d z
    rw [z, ha] at e
    cases e
    cases (show Data.seq vs.toArray _ = Data.dict es ep from d)
  have ns1 : ∀ {b : Addr} {m : Str → Option Value}, s.heap.Ns b m → (hidT s.heap H).Ns b m := by
    rintro b m ⟨o, es, ep, e, d, r⟩
    exact ⟨o, es, ep, hid e (notA e d), d, r⟩
  have kb : K.In (hidT s.heap H) := by
    intro b o e
    refine hidT_get (KX b o e) (Classical.byContradiction fun z => ?_)
    have eb := hA b z
    subst eb
    rw [hK z] at e
    cases e
  have md : Mod K mg (hidT s.heap H) := by
    obtain ⟨mc, h1, h2⟩ := hlim
    exact ⟨kb, ns1 hns, ⟨mb, ns1 hb, hbb⟩, ⟨mc, ns1 h1, h2⟩⟩
  have none_in : ∀ b : Addr, b ∉ frs ([] : List Env) := fun b z => absurd (show b ∈ ([] : List Addr) from z) (by simp)
  have e0 : Env0 P w K mg (hidT s.heap H) callerA [] s H :=
    ⟨rfl, md, fun b o z => of_hidT z, Nat.le_of_eq (hidT_size _ _), trivial, fun b z => absurd z (none_in b), hok, .of_eq hg⟩
  have run := (F _ kb (ns1 hns)).run callerA [] s H ⟨[.ref a], []⟩ [.ref a] [.ref a] _ _ rfl hr e0 (hbind s (.ref a)) (.cons rfl .nil) hs
  refine codeAny_mono run ?_
  rintro (e | fl) s' q
  · obtain ⟨_, _, _, _, _, _, _, _, _, _, _, _, z⟩ := q
    exact z.elim
  · cases fl with
    | next => exact q.elim
    | brk => exact q.elim
    | cont => exact q.elim
    | ret u =>
      obtain ⟨v, H', os, bare, un, hok', rv, ev⟩ := q
      obtain rfl : v = .bl true := ev
      obtain rfl : u = Value.bool true := rv
      refine ⟨rfl, OldK.of_keep fun b o e => ?_, os, bare⟩
      rcases hO b with z | ⟨ob, xs, z⟩
      · exact un.keep b o e z (none_in b) (by simp)
      · obtain ⟨e1, _⟩ := hok b _ z
        obtain ⟨e2, _⟩ := hok' b _ (un.frzs b ob _ z)
        rw [e] at e1
        cases e1
        exact e2
theorem told (KX : K.In s.heap) (hns : s.heap.Ns mainGlobals mg) (hb : s.heap.Ns builtinsNs mb)
    (hbb : ∀ y : Str, y ≠ "__name__" → mb y = bootBuiltins y) (hlim : s.heap.NoLimit) (hg : s.gens = #[])
    (ha : s.heap.get? a = some { cls := .type "list", data := .seq vs.toArray }) (hi : IntsAre vs ns) (hl : ns.length ≤ sizeLine)
    (hr : Room k callerA) (F : ∀ base : Heap, K.In base → base.Ns mainGlobals mg → FnG P w K mg base k fa fd [x] sp)
    (hbind : ∀ (t : Shared) (u : Value), BindsTo t fd ⟨[u], []⟩ [(x, u)])
    (hsp : ∀ H : Hp, Only H → SqL K H a (ns.map V.int) → sp [.ref a] H (fun v _ => v = .bl true) fun _ _ _ => False) :
    Told P w fa a s := by
  have rv := vals_ints hi
  cases hk : K.lookup a with
  | some o =>
    have e := KX a o hk
    rw [ha] at e
    cases e
    have hO : Only fun _ => none := fun _ => .inl rfl
    refine told_core KX hns hb hbb hlim hg ha hr F hbind hO (hsp _ hO (.inr ⟨_, vs.toArray, _, hk, rfl, rfl, rfl, ?_, by simpa using rv⟩)) ?_ (fun b z => absurd rfl z) fun z => absurd rfl z
    · rw [List.size_toArray, hi.length]
      exact hl
    · intro b u z
      cases (show (none : Option HO) = some u from z)
  | none =>
    let H0 : Hp := fun _ => none
    let ob : HO := .frz { cls := .type "list", data := .seq vs.toArray } (.lst (ns.map V.int))
    have hO : Only (upd H0 a ob) := fun b => by
      by_cases hb : b = a
      · rw [hb]
        exact .inr ⟨_, _, upd_same⟩
      · exact .inl (upd_ne hb)
    refine told_core KX hns hb hbb hlim hg ha hr F hbind hO (hsp _ hO (.inl (.inr ⟨_, upd_same⟩))) ?_ ?_ fun _ => hk
    · intro b u z
      by_cases hb : b = a
      · subst hb
        rw [upd_same] at z
        cases z
        exact ⟨ha, by rw [List.length_map]; exact hl, vs, _, rv, ha⟩
      · rw [upd_ne hb] at z
        cases z
    · intro b z
      by_cases hb : b = a
      · exact hb
      · exact absurd (upd_ne hb) z
end
theorem walk_ofG {l : PySem.W.OpenLaw} {n k : Nat} {q : Program} {loose : List Str} {XP : (Str → Option Value) → Heap → Prop} {YP : World → Heap → Prop} {d : DefRec}
    {K : Params → PySem.W.Frag} {sp : World → Sp} {x : Str} (hn : l.most = some n) (hn2 : n ≤ sizeLine) (hdf : d.params.defaults = []) (hr : Room k callerA)
    (hY : ∀ (w : World) (h : Heap), YP w h → (K w.params).In h)
    (F : ∀ (w : World) (mg : Str → Option Value) (fa : Addr) (h : Heap), (K w.params).In h → h.Ns mainGlobals mg → mg d.name = some (.ref fa) →
      ∃ fd : FuncData, (∀ (s : Shared) (u : Value), BindsTo s fd ⟨[u], []⟩ [(x, u)]) ∧
        ∀ base : Heap, (K w.params).In base → base.Ns mainGlobals mg → FnG l.prog w (K w.params) mg base k fa fd [x] (sp w))
    (hsp : ∀ (w : World) (H : Hp) (a : Addr) (ns : List Int), ns.length ≤ n → (∀ z ∈ ns, Builtin.Int.intBits z ≤ 1048576) → Only H → SqL (K w.params) H a (ns.map V.int) →
      sp w [.ref a] H (fun v _ => v = .bl true) fun _ _ _ => False) :
    PySem.W.WalkO q loose XP YP l.row.toRowW d [] (fun f vs => PySem.call f vs) := by
  refine Att.attach_callB hn hdf ?_
  intro w s₀ s₁ mg mb fa o pm cd doc a vs ns G Y ho hd hcd hmg hobj hints hlen hbits hg
  have KX := hY w _ Y
  obtain ⟨fd, hb, hF⟩ := F w mg fa _ KX G.T.g hmg
  exact told KX G.T.g G.T.b G.T.builtins G.T.nolimit hg hobj hints (Nat.le_trans hlen hn2) hr hF hb fun H hO hS => hsp w H a ns hlen hbits hO hS
end Fd

set_option maxRecDepth 100000
set_option maxHeartbeats 2000000
namespace Fd
open PySem PySem.Spec PyProof.Rows L2

/-! ### things that are equal by their build, or one and the same -/
def plainV : V → Bool
  | .non | .bl _ | .int _ | .str _ | .ref _ | .ty _ => true
  | _ => false
def Al (H : Hp) : Nat → V → V → Prop
  | 0, x, y => x = y ∧ plainV x = true
  | n + 1, x, y => (x = y ∧ plainV x = true) ∨ ∃ (a b : Addr) (xs ys : List V), x = .ref a ∧ y = .ref b ∧
      ((H a = some (.lst xs) ∧ H b = some (.lst ys)) ∨ (H a = some (.tup xs) ∧ H b = some (.tup ys))) ∧
      xs.length = ys.length ∧ ∀ (i : Nat) (u v : V), xs[i]? = some u → ys[i]? = some v → Al H n u v
/-- two lists or two tuples, item by item -/
def Al2 (H : Hp) (n : Nat) (x y : V) : Prop := ∃ (a b : Addr) (xs ys : List V), x = .ref a ∧ y = .ref b ∧
  ((H a = some (.lst xs) ∧ H b = some (.lst ys)) ∨ (H a = some (.tup xs) ∧ H b = some (.tup ys))) ∧
  xs.length = ys.length ∧ ∀ (i : Nat) (u v : V), xs[i]? = some u → ys[i]? = some v → Al H n u v
theorem Al.same {H : Hp} {n : Nat} {x : V} (h : plainV x = true) : Al H n x x := by
  cases n with
  | zero => exact ⟨rfl, h⟩
  | succ n => exact .inl ⟨rfl, h⟩
theorem Al.both {H : Hp} {n : Nat} {x y : V} (h : Al2 H n x y) : Al H (n + 1) x y := .inr h
theorem Al2.lst {H : Hp} {n : Nat} {a b : Addr} {xs ys : List V} (ha : H a = some (.lst xs)) (hb : H b = some (.lst ys)) (hl : xs.length = ys.length)
    (h : ∀ (i : Nat) (u v : V), xs[i]? = some u → ys[i]? = some v → Al H n u v) : Al2 H n (.ref a) (.ref b) := ⟨a, b, xs, ys, rfl, rfl, .inl ⟨ha, hb⟩, hl, h⟩
theorem Al2.tup {H : Hp} {n : Nat} {a b : Addr} {xs ys : List V} (ha : H a = some (.tup xs)) (hb : H b = some (.tup ys)) (hl : xs.length = ys.length)
    (h : ∀ (i : Nat) (u v : V), xs[i]? = some u → ys[i]? = some v → Al H n u v) : Al2 H n (.ref a) (.ref b) := ⟨a, b, xs, ys, rfl, rfl, .inr ⟨ha, hb⟩, hl, h⟩
/-- the same plain items -/
theorem al_eq {H : Hp} {n : Nat} {xs : List V} (h : ∀ x ∈ xs, plainV x = true) : ∀ (i : Nat) (u v : V), xs[i]? = some u → xs[i]? = some v → Al H n u v := fun i u v e1 e2 => by
  rw [e1] at e2
  cases e2
  exact .same (h _ (List.mem_of_getElem? e1))
section
variable {P : Program} {w : World} {H : Hp} {s : Shared}
theorem plain_eqAt {A : Around} {x : V} {u v : Value} (h : plainV x = true) (ru : RelV x u) (rv : RelV x v) : SeqAt.EqAt A s u v true := by
  cases x with
  | non =>
    obtain rfl : u = Value.none := ru
    obtain rfl : v = Value.none := rv
    exact .same _
  | bl b =>
    obtain rfl : u = Value.bool b := ru
    obtain rfl : v = Value.bool b := rv
    exact .same _
  | int i =>
    obtain ⟨t, rfl⟩ : ∃ t, u = Value.int i t := ru
    obtain ⟨t', rfl⟩ : ∃ t, v = Value.int i t := rv
    have z := SeqAt.EqAt.int_int (A := A) (s := s) i t i t'
    rwa [beq_self_eq_true] at z
  | str y =>
    obtain ⟨t, rfl⟩ : ∃ t, u = Value.str y t := ru
    obtain ⟨t', rfl⟩ : ∃ t, v = Value.str y t := rv
    have z := SeqAt.EqAt.str_str (A := A) (s := s) y t y t'
    rwa [beq_self_eq_true] at z
  | ref a =>
    obtain rfl : u = Value.ref a := ru
    obtain rfl : v = Value.ref a := rv
    exact .same _
  | ty n =>
    obtain rfl : u = Value.type n := ru
    obtain rfl : v = Value.type n := rv
    exact .same _
  | byt b => cases h
  | flt b => cases h
theorem all_true (n : Nat) : (List.range n).all (fun _ => true) = true := by
  rw [List.all_eq_true]
  exact fun _ _ => rfl
/-- where two objects lie -/
theorem al2_at (hok : HOk P w H s.heap) {a b : Addr} {xs ys : List V} (h : (H a = some (.lst xs) ∧ H b = some (.lst ys)) ∨ (H a = some (.tup xs) ∧ H b = some (.tup ys))) :
    ∃ us vs : List Value, Vals xs us ∧ Vals ys vs ∧ ((s.heap.IsList a us.toArray ∧ s.heap.IsList b vs.toArray) ∨ (s.heap.IsTuple a us.toArray ∧ s.heap.IsTuple b vs.toArray)) := by
  rcases h with ⟨h1, h2⟩ | ⟨h1, h2⟩
  · have z1 : ObjOk P w H s.heap a (.lst xs) := hok a _ h1
    have z2 : ObjOk P w H s.heap b (.lst ys) := hok b _ h2
    obtain ⟨_, us, n, r1, g1⟩ := z1
    obtain ⟨_, vs, m, r2, g2⟩ := z2
    exact ⟨us, vs, r1, r2, .inl ⟨⟨_, g1, rfl, _, rfl⟩, ⟨_, g2, rfl, _, rfl⟩⟩⟩
  · have z1 : ObjOk P w H s.heap a (.tup xs) := hok a _ h1
    have z2 : ObjOk P w H s.heap b (.tup ys) := hok b _ h2
    obtain ⟨_, us, r1, g1⟩ := z1
    obtain ⟨_, vs, r2, g2⟩ := z2
    exact ⟨us, vs, r1, r2, .inr ⟨g1, g2⟩⟩
theorem vals_at : ∀ {xs : List V} {us : List Value} {j : Nat} (r : Vals xs us) (h : j < us.length), ∃ x, xs[j]? = some x ∧ RelV x us[j]
  | _, _, 0, .cons r _, _ => ⟨_, rfl, r⟩
  | _, _, j + 1, .cons _ r, h => by
    obtain ⟨x, e, q⟩ := vals_at (j := j) r (Nat.lt_of_succ_lt_succ h)
    exact ⟨x, e, q⟩
mutual
theorem Al.eqAt (hok : HOk P w H s.heap) : ∀ (n : Nat) (A : Around) (x y : V) (u v : Value), Al H n x y → RelV x u → RelV y v → A.units + n < cLine → SeqAt.EqAt A s u v true
  | 0, A, x, y, u, v, h, ru, rv, _ => by
    obtain ⟨rfl, p⟩ := h
    exact plain_eqAt p ru rv
  | n + 1, A, x, y, u, v, h, ru, rv, hu => by
    rcases h with ⟨rfl, p⟩ | h
    · exact plain_eqAt p ru rv
    · have e := Al.rcAt hok n A x y u v h ru rv hu
      obtain ⟨a, b, xs, ys, rfl, rfl, _⟩ := h
      obtain rfl : u = Value.ref a := ru
      obtain rfl : v = Value.ref b := rv
      by_cases hab : a = b
      · subst hab
        exact .same _
      · exact .of_refs hab e
theorem Al.rcAt (hok : HOk P w H s.heap) : ∀ (n : Nat) (A : Around) (x y : V) (u v : Value), Al2 H n x y → RelV x u → RelV y v → A.units + (n + 1) < cLine → SeqAt.RcAt A s u v true
  | n, A, x, y, u, v, h, ru, rv, hu => by
    obtain ⟨a, b, xs, ys, rfl, rfl, h, hl, q⟩ := h
    obtain rfl : u = Value.ref a := ru
    obtain rfl : v = Value.ref b := rv
    obtain ⟨us, vs, r1, r2, g⟩ := al2_at hok h
    have hsz : us.toArray.size = vs.toArray.size := by
      rw [List.size_toArray, List.size_toArray, ← r1.length, ← r2.length]
      exact hl
    have item : ∀ j (h1 : j < us.toArray.size) (h2 : j < vs.toArray.size), SeqAt.EqAt A.in1 s us.toArray[j] vs.toArray[j] ((fun _ => true) j) := fun j h1 h2 => by
      obtain ⟨x, e1, q1⟩ := vals_at r1 (j := j) (by simpa using h1)
      obtain ⟨y, e2, q2⟩ := vals_at r2 (j := j) (by simpa using h2)
      have z := Al.eqAt hok n A.in1 x y _ _ (q j x y e1 e2) q1 q2 (by show A.units + 1 + n < cLine; omega)
      simpa using z
    rcases g with ⟨g1, g2⟩ | ⟨g1, g2⟩
    · have z := SeqAt.RcAt.lists g1 g2 hsz (by omega) item
      rwa [all_true] at z
    · have z := SeqAt.RcAt.tuples g1 g2 (by omega) item
      rw [all_true, hsz] at z
      simpa using z
end
theorem Al.rcNe (hok : HOk P w H s.heap) {n : Nat} {A : Around} {x y : V} {u v : Value} (h : Al2 H n x y) (ru : RelV x u) (rv : RelV y v) (hu : A.units + (n + 1) < cLine) : SeqAt.RcNeAt A s u v false := by
  obtain ⟨a, b, xs, ys, rfl, rfl, h, hl, q⟩ := h
  obtain rfl : u = Value.ref a := ru
  obtain rfl : v = Value.ref b := rv
  obtain ⟨us, vs, r1, r2, g⟩ := al2_at hok h
  have hsz : us.toArray.size = vs.toArray.size := by
    rw [List.size_toArray, List.size_toArray, ← r1.length, ← r2.length]
    exact hl
  have item : ∀ j (h1 : j < us.toArray.size) (h2 : j < vs.toArray.size), SeqAt.EqAt A.in1 s us.toArray[j] vs.toArray[j] ((fun _ => true) j) := fun j h1 h2 => by
    obtain ⟨x, e1, q1⟩ := vals_at r1 (j := j) (by simpa using h1)
    obtain ⟨y, e2, q2⟩ := vals_at r2 (j := j) (by simpa using h2)
    have z := Al.eqAt hok n A.in1 x y _ _ (q j x y e1 e2) q1 q2 (by show A.units + 1 + n < cLine; omega)
    simpa using z
  rcases g with ⟨g1, g2⟩ | ⟨g1, g2⟩
  · have z := SeqAt.RcNeAt.lists g1 g2 hsz (by omega) item
    rwa [all_true] at z
  · have z := SeqAt.RcNeAt.tuples g1 g2 (by omega) item
    rw [all_true, hsz] at z
    simpa using z
end
/-- x == y, x != y of such -/
def rEqL : R2 := fun x y H Q => (∃ n, n ≤ 60 ∧ Al2 H n x y) ∧ Q (.bl true) H
def rNeL : R2 := fun x y H Q => (∃ n, n ≤ 60 ∧ Al2 H n x y) ∧ Q (.bl false) H
theorem op_eqL {X : Cx} (hu : X.A.units + 64 < cLine) : OpR X (compareOp .Eq) rEqL := by
  rintro pins s σ H x y v u Q I rx ry ⟨⟨n, hn, h⟩, q⟩
  exact Al.rcAt I.hok n X.A x y v u h rx ry (by omega) X.prog X.w X.xe _ ⟨.bl true, H, I, rfl, q⟩
theorem op_neL {X : Cx} (hu : X.A.units + 64 < cLine) : OpR X (compareOp .NotEq) rNeL := by
  rintro pins s σ H x y v u Q I rx ry ⟨⟨n, hn, h⟩, q⟩
  exact Al.rcNe I.hok h rx ry (by omega) X.prog X.w X.xe _ ⟨.bl false, H, I, rfl, q⟩

/-! ### errors that are caught -/
structure Ec (K : PySem.W.Frag) (C : Addr) : Prop where
  x : XfC K C
  cl : (PySem.W.clsIn K C).isSome = true
  ha : PySem.W.findIn K (.ref C) "__class__" = some (some (.builtin "object.__class__"))
  hn : PySem.W.specialIn K (.builtin "object.__class__") "__get__" = some (some (.builtin "getset_descriptor.__get__"))
  ht : PySem.W.takesIn K (.builtin "object.__class__") = some true
  hm : PySem.W.mroIn K C (.type "object") = some true
  v : PySem.W.findIn K (.ref C) "value" = some none
theorem err_at {X : Cx} {a C dd : Addr} {oe : Obj} {fs : List (Str × V)} {pn pins : List (Addr × Obj)} {σ : L2.St} {H : Hp} {s : Shared} (I : Inv (X.suite a ((a, oe) :: pn)) pins σ H s)
    (hz : Zc (.ref C) (some dd) oe) (hf : ∃ vs, oe.data = .fields vs) (hd : H dd = some (.xd fs)) :
    ∃ (od : Obj) (mA : Str → Option Value), PySem.W.InstAt s.heap a oe C (some od) ∧ (∀ f, RelO (fs.lookup f) (mA f)) ∧ ∀ f, PySem.W.lookIn f od = some (mA f) := by
  obtain ⟨vs, hv⟩ := hf
  have hx : ObjOk X.prog X.w H s.heap dd (.xd fs) := I.hok dd _ hd
  obtain ⟨mA, hns, hr⟩ := hx
  obtain ⟨od, ho, hl⟩ := lookIn_ns hns
  refine ⟨od, mA, ⟨(I.pin (a, oe) (List.mem_append_left _ List.mem_cons_self)).1, hz.1, ?_, ?_⟩, hr, hl⟩
  · unfold PySem.W.notCls
    rw [hv] <;> rfl
  · rw [hz.2]
    exact ho
/-- error.n -/
def tXfD (K : PySem.W.Frag) (a : Addr) (cls : Value) (d : Option Addr) (n : Str) (te : TE) : TE := fun σ H Q => te σ H fun x H1 =>
  x = .ref a ∧ ∃ (C dd : Addr) (fs : List (Str × V)) (v : V), cls = .ref C ∧ Ec K C ∧ PySem.W.findIn K (.ref C) n = some none ∧ d = some dd ∧ H1 dd = some (.xd fs) ∧ fs.lookup n = some v ∧ Q v H1
theorem pe_xfD {X : Cx} {a : Addr} {oe : Obj} {cls : Value} {d : Option Addr} {pn : List (Addr × Obj)} {e : Expr} {te : TE} {pos : Pos} {n : Str} (hz : Zc cls d oe) (hf : ∃ vs, oe.data = .fields vs)
    (he : PE (X.suite a ((a, oe) :: pn)) e te) (hb : attributeBase e n X.env (eval e X.env) = eval e X.env := by rfl) : PE (X.suite a ((a, oe) :: pn)) (.Attribute e n pos) (tXfD X.K a cls d n te) := by
  constructor
  intro pins s σ H Q I h
  refine attr_of hb (thn (he.run pins s σ H _ I h) ?_)
  rintro u s1 ⟨x, H1, I1, rx, ex, C, dd, fs, v, ec, T, hno, ed, ea, l, q⟩
  subst ex ec ed
  obtain rfl : u = Value.ref a := rx
  obtain ⟨od, mA, J, hr, hl⟩ := err_at I1 hz hf ea
  obtain ⟨u, hu, ru⟩ := RelO.some_of (v := v) (o := mA n) (by rw [← l]; exact hr n)
  exact HandSPX.exc_get I1.kIn J T.x.ga T.x.gg T.x.exC (PySem.W.findObj_own T.x.hdC hno rfl (by rw [hl, hu])) (handed_of ru) ⟨v, H1, I1.tok _, ru, q⟩
/-- isinstance(error, c) -/
def rIsD (K : PySem.W.Frag) (a : Addr) (cls : Value) (d : Option Addr) : List V → Hp → VK → Prop := fun xs H Q => ∃ (C dd : Addr) (fs : List (Str × V)) (c : V) (cv : Value) (b : Bool),
  cls = .ref C ∧ Ec K C ∧ d = some dd ∧ H dd = some (.xd fs) ∧ xs = [.ref a, c] ∧ ClsV c cv ∧ PySem.W.kitOne K (.ref C) cv = some b ∧ Q (.bl b) H
theorem call_isD {X : Cx} {a : Addr} {oe : Obj} {cls : Value} {d : Option Addr} {pn : List (Addr × Obj)} (hz : Zc cls d oe) (hf : ∃ vs, oe.data = .fields vs) :
    CallR (X.suite a ((a, oe) :: pn)) (.builtin "isinstance") (rIsD X.K a cls d) := by
  rintro pins s σ H xs us Q I r ⟨C, dd, fs, c, cv, b, ec, T, ed, ea, rfl, k, e, q⟩
  subst ec ed
  obtain ⟨u1, u2, rfl, r1, r2⟩ := vals2 r
  obtain rfl : u1 = Value.ref a := r1
  have e2 := k.eq r2
  subst e2
  obtain ⟨od, mA, J, hr, hl⟩ := err_at I hz hf ea
  exact PySem.W.kia_one (PySem.W.kitx_exc T.cl T.x.ga T.x.gg T.x.exC T.ha T.hn T.ht T.hm) I.kIn J e (fun z => nomatch z) fun tk => ⟨.bl b, H, I.tok tk, rfl, q⟩
/-- a call in a try's body -/
theorem pe_callT {X : Cx} {k : Nat} {x : Str} {ps : List Str} {sp : Sp} {W : WX} {e : Expr} {es : List Expr} {t : TA} {p pos : Pos} (C : Pr X.prog X.w X.K X.mg X.base k x ps sp) (hr : Room k X.A) (tk : L2.Takes X W) (hg : Gl X x)
    (ha : PA X (e :: es) t) (hdb : (x == ("__debug__" : Str)) = false := by decide)
    (he : starEach (e :: es) X.env = (false, eval e X.env) :: starEach es X.env := by rfl) (hpl : (backTo pos (starEach es X.env)).any (·.1) = false := by rfl) :
    PE X (.Call (.Name x p) (e :: es) [] pos) (tCallS sp (WE W) t) := by
  obtain ⟨f, fd, g, kp, b, F⟩ := C.ex
  exact pe_callS F hr hg g kp b (fun σ => passAt tk σ) ha hdb he hpl
end Fd

set_option maxRecDepth 100000
set_option maxHeartbeats 2000000
namespace Fd
open PySem PySem.Spec PyProof.Rows L2

/-- a method of a built-in type, told by K alone (in a suite) -/
theorem pe_bmK {X : Cx} (K : PySem.W.Frag) (eK : X.K = K) {T name id : String} {o e : Expr} {es : List Expr} {to : TE} {t : TA} {r : V → List V → Hp → VK → Prop} {apos cpos : Pos}
    (pa : PlainAttrs T) (slot : Slot T name id) (hty : typeOf (.builtin id) = pure (.type "method_descriptor")) (hm : MtR X id r) (ho : PE X o to) (ha : PA X (e :: es) t)
    (hbase : attributeBase o name X.env (eval o X.env) = eval o X.env := by rfl)
    (hfew : ((backTo cpos (starEach (e :: es) X.env)).all (fun x => !x.1) && (backToKw cpos (keywordEach [] X.env)).all (fun x => x.1.isSome) &&
      decide ((e :: es).length + ([] : List Keyword).length + (if ([] : List Keyword).isEmpty then 0 else 1) < 30)) = true := by rfl)
    (hline : (apos.endLine == cpos.line) = true := by rfl) (hs : starEach (e :: es) X.env = (false, eval e X.env) :: starEach es X.env := by rfl)
    (hplain : (backTo cpos (starEach es X.env)).any (·.1) = false := by rfl) : PE X (.Call (.Attribute o name apos) (e :: es) [] cpos) (tBM K T r to t) := by
  subst eK
  exact pe_bm pa slot hty hm ho ha hbase hfew hline hs hplain
/-! ### data that is short when it is written -/
structure Fn (d : PyData) (n k : Nat) : Prop where
  show' : d.showable = true
  len : d.shown.length ≤ n
  dep : d.depth ≤ k
theorem Fn.le {d : PyData} {n k n' k' : Nat} (h : Fn d n k) (h1 : n ≤ n') (h2 : k ≤ k') : Fn d n' k' := ⟨h.show', Nat.le_trans h.len h1, Nat.le_trans h.dep h2⟩
theorem Fn.non : Fn .none 4 0 := ⟨by rw [PyData.showable], by rw [PyData.shown]; decide, by rw [PyData.depth]; exact Nat.le_refl _⟩
theorem Fn.bl (b : Bool) : Fn (.bool b) 5 0 := ⟨by rw [PyData.showable], by rw [PyData.shown]; cases b <;> decide, by rw [PyData.depth]; exact Nat.le_refl _⟩
theorem Fn.int {i : Int} (h : i.natAbs < 10 ^ 45) : Fn (.int i) 46 0 := by
  refine ⟨?_, ?_, by rw [PyData.depth]; exact Nat.le_refl _⟩
  · rw [PyData.showable]
    refine decide_eq_true ?_
    by_cases z : i.natAbs = 0
    · rw [z]
      decide
    · exact (Nat.log2_lt z).mpr (Nat.lt_of_lt_of_le (Nat.lt_trans h (show (10 : Nat) ^ 45 < 2 ^ 150 by decide)) (Nat.pow_le_pow_right (by decide) (show 150 ≤ 1920 by decide)))
  · rw [PyData.shown]
    have e := int_text_length_le10 (k := 45) (by decide) h
    rw [PySem.ofString_length]
    omega
theorem Fn.str {x : Str} {n : Nat} (h : (reprText x).length ≤ n) : Fn (.str x) n 0 := ⟨by rw [PyData.showable], by rw [PyData.shown]; exact h, by rw [PyData.depth]; exact Nat.le_refl _⟩
theorem textFrom_le : ∀ (ts : List Str) (k : Nat) (acc : Str), (textFrom k acc ts).length ≤ acc.length + piled ts
  | [], _, acc => by show acc.length ≤ acc.length + 0; omega
  | t :: r, k, acc => by
    have ih := textFrom_le r (k + 1) (acc ++ (if k > 0 then ", " else "" : String) ++ t)
    have e : (acc ++ (if k > 0 then ", " else "" : String) ++ t).length ≤ acc.length + 2 + t.length := by
      rw [strLen_append, strLen_append]
      split
      · exact Nat.le_refl _
      · show acc.length + 0 + t.length ≤ _
        omega
    show (textFrom (k + 1) _ r).length ≤ _
    rw [piled_cons]
    omega
theorem piled_le {n : Nat} : ∀ (ts : List Str), (∀ t ∈ ts, t.length ≤ n) → piled ts ≤ ts.length * (n + 2)
  | [], _ => Nat.zero_le _
  | t :: r, h => by
    rw [piled_cons, List.length_cons, Nat.succ_mul]
    have h1 := h t List.mem_cons_self
    have h2 := piled_le r fun u hu => h u (List.mem_cons_of_mem _ hu)
    omega
theorem shownAll_map : ∀ ds : List PyData, PyData.shownAll ds = ds.map PyData.shown
  | [] => by rw [PyData.shownAll]; rfl
  | d :: ds => by rw [PyData.shownAll, shownAll_map ds]; rfl
theorem showableAll_of : ∀ ds : List PyData, (∀ d ∈ ds, d.showable = true) → PyData.showableAll ds = true
  | [], _ => by rw [PyData.showableAll]
  | d :: ds, h => by
    rw [PyData.showableAll, h d List.mem_cons_self, showableAll_of ds fun e he => h e (List.mem_cons_of_mem _ he)]
    rfl
theorem depthAll_of {k : Nat} : ∀ ds : List PyData, (∀ d ∈ ds, d.depth ≤ k) → PyData.depthAll ds ≤ k
  | [], _ => by rw [PyData.depthAll]; exact Nat.zero_le _
  | d :: ds, h => by
    rw [PyData.depthAll]
    exact Nat.max_le.mpr ⟨h d List.mem_cons_self, depthAll_of ds fun e he => h e (List.mem_cons_of_mem _ he)⟩
theorem all_piled {n k : Nat} {ds : List PyData} (h : ∀ d ∈ ds, Fn d n k) : piled (PyData.shownAll ds) ≤ ds.length * (n + 2) := by
  have z := piled_le (n := n) (PyData.shownAll ds) fun t ht => by
    rw [shownAll_map] at ht
    obtain ⟨d, hd, rfl⟩ := List.mem_map.mp ht
    exact (h d hd).len
  rwa [shownAll_map, List.length_map, ← shownAll_map] at z
theorem Fn.lst {n k : Nat} {ds : List PyData} (h : ∀ d ∈ ds, Fn d n k) : Fn (.list ds) (2 + ds.length * (n + 2)) (k + 1) := by
  refine ⟨?_, ?_, ?_⟩
  · rw [PyData.showable]
    exact showableAll_of ds fun d hd => (h d hd).show'
  · rw [PyData.shown]
    have z := textFrom_le (PyData.shownAll ds) 0 "["
    have e : (listText (PyData.shownAll ds)).length = (textFrom 0 "[" (PyData.shownAll ds)).length + 1 := by
      show (textFrom 0 "[" _ ++ "]").length = _
      rw [strLen_append]
      rfl
    have e1 : ("[" : Str).length = 1 := rfl
    have e2 := all_piled h
    omega
  · rw [PyData.depth]
    exact Nat.succ_le_succ (depthAll_of ds fun d hd => (h d hd).dep)
theorem Fn.tup {n k : Nat} {ds : List PyData} (h : ∀ d ∈ ds, Fn d n k) : Fn (.tuple ds) (3 + ds.length * (n + 2)) (k + 1) := by
  refine ⟨?_, ?_, ?_⟩
  · rw [PyData.showable]
    exact showableAll_of ds fun d hd => (h d hd).show'
  · rw [PyData.shown]
    have e2 := all_piled h
    generalize PyData.shownAll ds = ts at e2
    have e3 : (Str.join ", " ts).length ≤ piled ts := by
      cases ts with
      | nil => exact Nat.le_refl _
      | cons t r =>
        have z := join_length_add (t :: r) (by simp)
        omega
    unfold tupleText
    rw [strLen_append, strLen_append]
    have e4 : ("(" : Str).length = 1 := rfl
    have e5 : (Str.ofString (if ts.length == 1 then ",)" else ")" : String)).length ≤ 2 := by split <;> decide
    omega
  · rw [PyData.depth]
    exact Nat.succ_le_succ (depthAll_of ds fun d hd => (h d hd).dep)
theorem Fn.dic : Fn (.dict []) 2 1 := ⟨by rw [PyData.showable, PyData.showableKv], by rw [PyData.shown, PyData.shownKv]; decide, by rw [PyData.depth, PyData.depthKv]; exact Nat.le_refl _⟩
theorem Fn.ints {ns : List Int} (h : ∀ z ∈ ns, z.natAbs < 10 ^ 45) : ∀ d ∈ ns.map PyData.int, Fn d 46 0 := fun d hd => by
  obtain ⟨z, hz, rfl⟩ := List.mem_map.mp hd
  exact .int (h z hz)
theorem Sgn.small {ns : List Int} (h : Sgn ns) : ∀ z ∈ ns, z.natAbs < 10 ^ 45 := fun z hz => by
  have q := h z hz
  have e : (10 : Nat) ^ 45 = 1000000000000000000000000000000000000000000000 := by decide
  omega
theorem nat45 {i : Int} (h0 : -1000000000 ≤ i) (h1 : i ≤ 100000000000000000000) : i.natAbs < 10 ^ 45 := by
  have e : (10 : Nat) ^ 45 = 1000000000000000000000000000000000000000000000 := by decide
  omega

/-! ### data that lies off the tape -/
def off (t : Addr) (H : Hp) : Hp := fun b => if b = t then none else H b
theorem off_ne {t b : Addr} {H : Hp} (h : b ≠ t) : off t H b = H b := if_neg h
theorem off_on {t : Addr} {H : Hp} : off t H t = none := if_pos rfl
theorem off_le {t : Addr} {H : Hp} : Same (off t H) H := fun b o e => by
  by_cases h : b = t
  · rw [h, off_on] at e
    cases e
  · rwa [off_ne h] at e
theorem off_of {t b : Addr} {H : Hp} {o : HO} (h : b ≠ t) (e : H b = some o) : off t H b = some o := by rw [off_ne h, e]
theorem Same.off {t : Addr} {H H' : Hp} (s : Same H H') : Same (Fd.off t H) (Fd.off t H') := fun b o e => by
  by_cases h : b = t
  · rw [h, off_on] at e
    cases e
  · rw [off_ne h] at e ⊢
    exact s b o e
theorem Go.off {t c : Addr} {H H' : Hp} (g : Go t c H H') : Same (Fd.off t H) (Fd.off t H') := fun b o e => by
  by_cases h : b = t
  · rw [h, off_on] at e
    cases e
  · rw [off_ne h] at e ⊢
    exact g.keep b o h e
theorem Da.on {K : PySem.W.Frag} {t : Addr} {H : Hp} {v : V} {d : PyData} (h : Da K (Fd.off t H) v d) : Da K H v d := h.keep off_le d v
theorem Da.go {K : PySem.W.Frag} {t c : Addr} {H H' : Hp} {v : V} {d : PyData} (h : Da K (Fd.off t H) v d) (g : Go t c H H') : Da K (Fd.off t H') v d := h.keep g.off d v
theorem Da.go' {K : PySem.W.Frag} {t : Addr} {H H' : Hp} {v : V} {d : PyData} (h : Da K (Fd.off t H) v d) (s : Same H H') : Da K (Fd.off t H') v d := h.keep (Same.off s) d v
theorem DaAll.go {K : PySem.W.Frag} {t c : Addr} {H H' : Hp} {vs : List V} {ds : List PyData} (h : DaAll K (Fd.off t H) vs ds) (g : Go t c H H') : DaAll K (Fd.off t H') vs ds := h.keep g.off ds vs
theorem Da.plain {K : PySem.W.Frag} {H : Hp} {v : V} {d : PyData} (h : Da K H v d) : plainV v = true := by cases h <;> rfl
theorem DaAll.set {K : PySem.W.Frag} {H : Hp} : ∀ {vs : List V} {ds : List PyData} (i : Nat) {v : V} {d : PyData}, DaAll K H vs ds → Da K H v d → DaAll K H (vs.set i v) (ds.set i d)
  | _, _, _, _, _, .nil, _ => .nil
  | _, _, 0, _, _, .cons _ h2, h => .cons h h2
  | _, _, i + 1, _, _, .cons h1 h2, h => .cons h1 (DaAll.set i h2 h)
theorem ixN_nat {n j : Nat} (h : j < n) : ixN n (j : Int) = some j := by
  unfold ixN
  rw [if_pos (Int.natCast_nonneg j), if_pos (by omega)]
  rfl
/-- what stands in H' and did not stand in H -/
def newer (H H' : Hp) : Hp := fun b => match H b with | none => H' b | some _ => none
theorem newer_le {H H' : Hp} : Same (newer H H') H' := fun b o e => by
  unfold newer at e
  split at e
  · exact e
  · cases e
theorem newer_of {H H' : Hp} {b : Addr} {o : HO} (n : H b = none) (e : H' b = some o) : newer H H' b = some o := by
  unfold newer
  rw [n]
  exact e
theorem newer_none {H H' : Hp} {b : Addr} {o : HO} (e : newer H H' b = some o) : H b = none := by
  unfold newer at e
  split at e
  · assumption
  · cases e
theorem newer_off {t : Addr} {H H' : Hp} (h : H t ≠ none) : Same (newer H H') (off t H') := fun b o e => by
  have n := newer_none e
  rw [off_ne fun z => h (by rw [← z]; exact n)]
  exact newer_le b o e
theorem newer_upd {H H' : Hp} {a : Addr} {x : HO} (h : H a ≠ none) : Same (newer H H') (newer H (upd H' a x)) := fun b o e => by
  have n := newer_none e
  refine newer_of n ?_
  rw [upd_ne fun z => h (by rw [← z]; exact n)]
  exact newer_le b o e
theorem Go.free {t c : Addr} {H H' : Hp} (g : Go t c H H') {p : Addr} (n : H' p = none) : H p = none := by
  cases e : H p with
  | none => rfl
  | some o =>
    have pt : p ≠ t := fun z => by
      obtain ⟨T, e1, _⟩ := g.tape
      rw [z, e1] at n
      cases n
    rw [g.keep p o pt e] at n
    cases n
theorem TapeAt.ne {H : Hp} {t c : Addr} (h : TapeAt H t c) : H t ≠ none := fun z => by
  obtain ⟨T, e1, _⟩ := h
  rw [z] at e1
  cases e1
/-- what the laws hand in that is none -/
def Odd (d : PyData) : Prop := Fn d 500 2 ∧ (dItems d).length ≤ 2
def spOdd (K : PySem.W.Frag) : Sp := fun vs H Q _ => ∃ t c : Addr, vs = [.ref t] ∧ TapeAt H t c ∧ ∀ v d H', Odd d → Da K (newer H H') v d → Go t c H H' → Q v H'
theorem odd_ints {ns : List Int} (h : ∀ z ∈ ns, z.natAbs < 10 ^ 45) (hl : ns.length ≤ 2) : Odd (.list (ns.map PyData.int)) ∧ Odd (.tuple (ns.map PyData.int)) := by
  have e : (ns.map PyData.int).length ≤ 2 := by rw [List.length_map]; exact hl
  have m : (ns.map PyData.int).length * (46 + 2) ≤ 2 * 48 := Nat.mul_le_mul_right _ e
  exact ⟨⟨(Fn.lst (Fn.ints h)).le (by omega) (by decide), e⟩, ⟨(Fn.tup (Fn.ints h)).le (by omega) (by decide), e⟩⟩
end Fd

set_option maxRecDepth 100000
set_option maxHeartbeats 2000000
namespace Fd
open PySem PySem.Spec PyProof.Rows L2

/-! ### errors that are made and held, not raised -/
/-- x(..), an error class at C with its own __init__ -/
def tMkV (C : Addr) (sp : Sp) (ta : TA) : TE := fun σ H Q => ta σ H fun vs H1 => vs.length ≤ 1000 ∧ ∀ a, H1 a = none →
  sp (.ref a :: vs) (upd H1 a (exo a C none)) (fun v H2 => v = .non ∧ Q (.ref a) H2) fun _ _ _ => False
section
variable {X : Cx} {C fI : Addr} {k : Nat} {fd : FuncData} {ps : List Str} {sp : Sp}
theorem make_err {pins : List (Addr × Obj)} {σ : L2.St} {H : Hp} {Q : VK} {us : List Value} {vs : List V} {s : Shared} (T : OexC X.K C) (iC : PySem.W.findIn X.K (.ref C) "__init__" = some (some (.ref fI)))
    (tI : PySem.W.typeIn X.K (.ref fI) = some (.type "function")) (F1 : FnOk X.prog X.w X.K X.mg X.base (L2.CX X.prog X.w) k fI fd ps sp) (hr : Room (k + 1) X.A) (hb : Binds X.K fd ps [])
    (hx : Passes (L2.CX X.prog X.w) X (fun _ _ _ => False)) (I1 : Inv X pins σ H s) (r1 : Vals vs us) (hz : vs.length ≤ 1000)
    (q1 : ∀ a, H a = none → sp (.ref a :: vs) (upd H a (exo a C none)) (fun v H2 => v = .non ∧ Q (.ref a) H2) fun _ _ _ => False) :
    wpAny (model X.prog X.w) X.A (call (.ref C) us) (EP X pins σ Q) X.xe s := by
  obtain ⟨nm, q, N, bs, bm, sn, sub, ab, col, dd, k0, k1, k2, k3, k5, hC, hbm⟩ := T.cls
  obtain ⟨hp, g, dr, tk, os⟩ := s
  have lt1 : hp.objs.size ≤ hp.objs.size + 1 := Nat.le_succ _
  have fresh : H (hp.objs.size + 1) = none := I1.hok.fresh lt1
  have hq := q1 _ fresh
  have grown : ∀ b o, hp.get? b = some o → ((hp.push (PySem.W.kdv_tup us)).push (PySem.HandSPX.excO C hp.objs.size)).get? b = some o := fun b o e =>
    Heap.get?_push_of_some _ (Heap.get?_push_of_some _ e)
  have there : ((hp.push (PySem.W.kdv_tup us)).push (PySem.HandSPX.excO C hp.objs.size)).get? (hp.objs.size + 1) = some (PySem.HandSPX.excO C hp.objs.size) := by heap_get
  have I2 := I1.laid (t' := tk) (a := hp.objs.size + 1) (o := exo (hp.objs.size + 1) C none) (h' := (hp.push (PySem.W.kdv_tup us)).push (PySem.HandSPX.excO C hp.objs.size)) grown lt1 (exo_ok there)
  have r2 : Vals (V.ref (hp.objs.size + 1) :: vs) (Value.ref (hp.objs.size + 1) :: us) := .cons rfl r1
  have hl : (Value.ref (hp.objs.size + 1) :: us).length = ps.length := by
    have e := r2.length
    rw [F1.len _ _ _ _ hq] at e
    exact e.symm
  have hus : us.length ≤ sizeLine := by
    rw [← Paired.length r1, sizeLine_eq]
    omega
  have hb' := hb ⟨(hp.push (PySem.W.kdv_tup us)).push (PySem.HandSPX.excO C hp.objs.size), g, dr, tk, os⟩ (Value.ref (hp.objs.size + 1) :: us) I2.kIn (by rw [List.append_nil]; exact hl)
  rw [List.append_nil] at hb'
  refine wpAny_call (PySem.HandSPX.call_own F.excBase_ValueError (fun Y => PySem.HandSPX.refsVE_contains Y bm hbm) (I1.kIn _ _ hC) (PySem.W.looks_findIn I1.kIn iC) (fun self => PySem.W.bind_fn I1.kIn self tI) hus
    (codeAny_mono (F1.run _ X.stack _ _ _ _ _ _ _ (hr.make C us []) (I2.env0.make C us []) hb' r2 hq) ?_))
  rintro (er | fl) s' hq'
  · exact hx pins σ _ _ er s' I2 hq'
  · cases fl with
    | ret u =>
      obtain ⟨v', H', I', rv, ev, q2⟩ := I2.after hq'
      subst ev
      exact ⟨rv, .ref (hp.objs.size + 1), H', I', rfl, q2⟩
    | next => exact hq'.elim
    | brk => exact hq'.elim
    | cont => exact hq'.elim
variable {x : Str} {e : Expr} {es : List Expr} {ta : TA} {p pos : Pos}
theorem pe_mkv (T : OexC X.K C) (iC : PySem.W.findIn X.K (.ref C) "__init__" = some (some (.ref fI))) (tI : PySem.W.typeIn X.K (.ref fI) = some (.type "function"))
    (F1 : FnOk X.prog X.w X.K X.mg X.base (L2.CX X.prog X.w) k fI fd ps sp) (hr : Room (k + 1) X.A) (hb : Binds X.K fd ps []) (hx : Passes (L2.CX X.prog X.w) X (fun _ _ _ => False)) (hg : Gl X x) (hm : X.mg x = some (.ref C)) (ha : PA X (e :: es) ta)
    (hdb : (x == ("__debug__" : Str)) = false := by decide) (he : starEach (e :: es) X.env = (false, eval e X.env) :: starEach es X.env := by rfl) (hpl : (backTo pos (starEach es X.env)).any (·.1) = false := by rfl) :
    PE X (.Call (.Name x p) (e :: es) [] pos) (tMkV C sp ta) := by
  constructor
  intro pins s σ H Q I h
  refine wpAny_Call_Name_kw (ld_glob I hg hm ?_ hdb)
  refine PySem.W.callWith_K (h₀ := X.base) I.ok.mod.kin T.kC (thn (ha.run pos pins s σ H _ I h) ?_) he hpl
  rintro us s1 ⟨vs, H1, I1, r1, hz, q1⟩
  exact ⟨I1.kIn, make_err T iC tI F1 hr hb hx I1 r1 hz q1⟩
theorem pe_mkv0 (T : OexC X.K C) (iC : PySem.W.findIn X.K (.ref C) "__init__" = some (some (.ref fI))) (tI : PySem.W.typeIn X.K (.ref fI) = some (.type "function"))
    (F1 : FnOk X.prog X.w X.K X.mg X.base (L2.CX X.prog X.w) k fI fd ps sp) (hr : Room (k + 1) X.A) (hb : Binds X.K fd ps []) (hx : Passes (L2.CX X.prog X.w) X (fun _ _ _ => False)) (hg : Gl X x) (hm : X.mg x = some (.ref C))
    (hdb : (x == ("__debug__" : Str)) = false := by decide) : PE X (.Call (.Name x p) [] [] pos) (tMkV C sp tNil) := by
  constructor
  intro pins s σ H Q I h
  refine wpAny_Call_Name_kw (ld_glob I hg hm ?_ hdb)
  exact PySem.W.callWith_K0 I.kIn T.kC (make_err (us := []) (vs := []) T iC tI F1 hr hb hx I .nil h.1 h.2)
/-- x.m(..), x a class of the module, m a def of it -/
theorem pe_clsfn {f : Addr} {mc : Value} {m : Str} {t : TA} {E : XK} {pl : Sem Bool} {apos : Pos} (r : ClX.CRead X.K C mc) (at_ : PySem.W.findCls X.K (.ref C) mc m = some (.val (.ref f))) (F1 : FnOk X.prog X.w X.K X.mg X.base (L2.CX X.prog X.w) k f fd ps sp)
    (hr : Room k X.A) (hk : PySem.W.keepIn X.K (.ref f) = true) (hb : Binds X.K fd ps []) (hx : Passes (L2.CX X.prog X.w) X E) (hg : Gl X x) (hm : X.mg x = some (.ref C)) (ha : PA X (e :: es) t)
    (hc : eval (.Call (.Attribute (.Name x p) m apos) (e :: es) [] pos) X.env = (do
      let ov ← eval (.Name x p) X.env
      standAt apos.atName
      let (f, first) ← holding [ov] (getMethod ov m pl)
      callWith pos f first (backTo pos (starEach (e :: es) X.env)) (backToKw pos (keywordEach [] X.env))) := by rfl)
    (hdb : (x == ("__debug__" : Str)) = false := by decide) (he : starEach (e :: es) X.env = (false, eval e X.env) :: starEach es X.env := by rfl) (hpl : (backTo pos (starEach es X.env)).any (·.1) = false := by rfl) :
    PE X (.Call (.Attribute (.Name x p) m apos) (e :: es) [] pos) (tCall sp [] E t) := by
  constructor
  intro pins s σ H Q I h
  refine PySem.W.methodCall_KW (ld_glob I hg hm ?_ hdb) hc
  refine PySem.W.method_cls I.kIn r.ga (PySem.W.cls_value I.kIn r.rd at_ rfl ?_)
  have I' : Inv X pins σ H { s with toks := s.toks + 1 } := I.tok _
  refine PySem.W.callWith_K (first := []) (h₀ := X.base) I.ok.mod.kin hk (thn (ha.run pos pins _ σ H _ I' h) ?_) he hpl
  rintro us s1 ⟨vs, H1, I1, r1, q⟩
  exact ⟨I1.kIn, run_fn F1 hr hb .nil hx I1 r1 q⟩
end
/-- such an error stands at a -/
def ErrAt (K : PySem.W.Frag) (H : Hp) (a C : Addr) (v : V) : Prop := Ec K C ∧ ∃ dx, H a = some (exo a C (some dx)) ∧ H dx = some (exd dx [("value", v)])
theorem exo_inst {X : Cx} {a C dx : Addr} {fs : List (Str × V)} {pins : List (Addr × Obj)} {σ : L2.St} {H : Hp} {s : Shared} (I : Inv X pins σ H s) (ea : H a = some (exo a C (some dx))) (ed : H dx = some (exd dx fs)) :
    ∃ (oe od : Obj) (mA : Str → Option Value), PySem.W.InstAt s.heap a oe C (some od) ∧ (∀ f, RelO (fs.lookup f) (mA f)) ∧ ∀ f, PySem.W.lookIn f od = some (mA f) := by
  obtain ⟨t1, g⟩ := exo_at I.hok ea
  obtain ⟨mA, hns, hr⟩ := exd_at I.hok ed
  obtain ⟨od, ho, hl⟩ := lookIn_ns hns
  exact ⟨_, od, mA, ⟨g, rfl, rfl, ho⟩, hr, hl⟩
/-- error.value, the error held -/
def tXv (K : PySem.W.Frag) (n : Str) (te : TE) : TE := fun σ H Q => te σ H fun x H1 => ∃ (a C : Addr) (v : V), x = .ref a ∧ n = "value" ∧ ErrAt K H1 a C v ∧ Q v H1
theorem pe_xv {X : Cx} {e : Expr} {te : TE} {pos : Pos} {n : Str} (he : PE X e te) (hb : attributeBase e n X.env (eval e X.env) = eval e X.env := by rfl) : PE X (.Attribute e n pos) (tXv X.K n te) := by
  constructor
  intro pins s σ H Q I h
  refine attr_of hb (thn (he.run pins s σ H _ I h) ?_)
  rintro u s1 ⟨x, H1, I1, rx, a, C, v, ex, en, ⟨T, dx, ea, ed⟩, q⟩
  subst ex en
  obtain rfl : u = Value.ref a := rx
  obtain ⟨oe, od, mA, J, hr, hl⟩ := exo_inst I1 ea ed
  obtain ⟨u, hu, ru⟩ := RelO.some_of (v := v) (o := mA "value") (hr "value")
  exact HandSPX.exc_get I1.kIn J T.x.ga T.x.gg T.x.exC (PySem.W.findObj_own T.x.hdC T.v rfl (by rw [hl, hu])) (handed_of ru) ⟨v, H1, I1.tok _, ru, q⟩
/-- isinstance(error, c), the error held -/
def rIsV (K : PySem.W.Frag) : List V → Hp → VK → Prop := fun xs H Q => ∃ (a C : Addr) (v c : V) (cv : Value) (b : Bool), xs = [.ref a, c] ∧ ErrAt K H a C v ∧ ClsV c cv ∧ PySem.W.kitOne K (.ref C) cv = some b ∧ Q (.bl b) H
theorem call_isV {X : Cx} : CallR X (.builtin "isinstance") (rIsV X.K) := by
  rintro pins s σ H xs us Q I r ⟨a, C, v, c, cv, b, rfl, ⟨T, dx, ea, ed⟩, k, e, q⟩
  obtain ⟨u1, u2, rfl, r1, r2⟩ := vals2 r
  obtain rfl : u1 = Value.ref a := r1
  have e2 := k.eq r2
  subst e2
  obtain ⟨oe, od, mA, J, hr, hl⟩ := exo_inst I ea ed
  exact PySem.W.kia_one (PySem.W.kitx_exc T.cl T.x.ga T.x.gg T.x.exC T.ha T.hn T.ht T.hm) I.kIn J e (fun z => nomatch z) fun tk => ⟨.bl b, H, I.tok tk, rfl, q⟩
theorem pe_imp {X : Cx} {e : Expr} {t u : TE} (h : PE X e t) (i : ∀ σ H Q, u σ H Q → t σ H Q) : PE X e u := ⟨fun pins s σ H Q I q => h.run pins s σ H Q I (i σ H Q q)⟩
theorem ErrAt.keep {K : PySem.W.Frag} {H H' : Hp} (s : Same H H') {a C : Addr} {v : V} (h : ErrAt K H a C v) : ErrAt K H' a C v := by
  obtain ⟨T, dx, e1, e2⟩ := h
  exact ⟨T, dx, s _ _ e1, s _ _ e2⟩
/-- x(e): the error with the value of e -/
def tMade1 (K : PySem.W.Frag) (C : Addr) (te : TE) : TE := fun σ H Q => te σ H fun v H1 => Ec K C ∧ ∀ a H2, Same H1 H2 → ErrAt K H2 a C v → Q (.ref a) H2
theorem same_err {H : Hp} {a dx C : Addr} {fs : List (Str × V)} (na : H a = none) (nd : upd H a (exo a C none) dx = none) (ne : dx ≠ a) : Same H (upd (upd (upd H a (exo a C none)) dx (exd dx fs)) a (exo a C (some dx))) := fun b o e => by
  rw [upd_ne (ne_of_none e na), upd_ne, upd_ne (ne_of_none e na)]
  · exact e
  · intro z
    rw [z] at e
    rw [upd_ne ne, e] at nd
    cases nd
theorem pe_made1 {X : Cx} {k : Nat} {x : Str} {C fI : Addr} {e : Expr} {te : TE} {p pos : Pos} (T : Ex X.K X.mg x C fI) (F : InitOk X.prog X.w X.K X.mg X.base k fI) (hr : Room (k + 1) X.A)
    (hx : Passes (L2.CX X.prog X.w) X (fun _ _ _ => False)) (hg : Gl X x) (he : PE X e te) (hdb : (x == ("__debug__" : Str)) = false := by decide)
    (hst : starEach (e :: []) X.env = (false, eval e X.env) :: starEach [] X.env := by rfl) (hpl : (backTo pos (starEach [] X.env)).any (·.1) = false := by rfl) :
    PE X (.Call (.Name x p) [e] [] pos) (tMade1 X.K C te) := by
  obtain ⟨fd, b, F1⟩ := F.ok
  refine pe_imp (pe_mkv T.o T.i F.ty F1 hr b hx hg T.g (pa_cons (pe_mon he) pa_nil hst) hdb hst hpl) fun σ H Q h => ?_
  refine ⟨_, h, fun v H1 q => ⟨(by show 1 ≤ 1000; decide), fun a na => ⟨a, C, v, rfl, T.o, T.v, upd_same, fun dx nx ne => ⟨rfl, ?_⟩⟩⟩⟩
  exact q.2 a _ (same_err na nx ne) ⟨q.1, dx, upd_same, by rw [upd_ne ne, upd_same]⟩
/-- what __init__(self) of the errors without a value promises -/
def spInit0 (K : PySem.W.Frag) : Sp := fun vs H Q _ => ∃ (a C : Addr), vs = [.ref a] ∧ OexC K C ∧ PySem.W.findIn K (.ref C) "value" = some none ∧ H a = some (exo a C none) ∧
  ∀ dx, H dx = none → dx ≠ a → Q .non (upd (upd H dx (exd dx [("value", .non)])) a (exo a C (some dx)))
structure InitOk0 (P : Program) (w : World) (K : PySem.W.Frag) (mg : Str → Option Value) (base : Heap) (k : Nat) (fI : Addr) : Prop where
  ty : PySem.W.typeIn K (.ref fI) = some (.type "function")
  ok : ∃ fd, Binds K fd ["self"] [] ∧ FnOk P w K mg base (L2.CX P w) k fI fd ["self"] (spInit0 K)
def tMade0 (K : PySem.W.Frag) (C : Addr) : TE := fun _ H Q => Ec K C ∧ ∀ a H2, Same H H2 → ErrAt K H2 a C .non → Q (.ref a) H2
theorem pe_made0 {X : Cx} {k : Nat} {x : Str} {C fI : Addr} {p pos : Pos} (T : Ex X.K X.mg x C fI) (F : InitOk0 X.prog X.w X.K X.mg X.base k fI) (hr : Room (k + 1) X.A)
    (hx : Passes (L2.CX X.prog X.w) X (fun _ _ _ => False)) (hg : Gl X x) (hdb : (x == ("__debug__" : Str)) = false := by decide) : PE X (.Call (.Name x p) [] [] pos) (tMade0 X.K C) := by
  obtain ⟨fd, b, F1⟩ := F.ok
  refine pe_imp (pe_mkv0 T.o T.i F.ty F1 hr b hx hg T.g hdb) fun σ H Q h => ?_
  refine ⟨(by show 0 ≤ 1000; decide), fun a na => ⟨a, C, rfl, T.o, T.v, upd_same, fun dx nx ne => ⟨rfl, ?_⟩⟩⟩
  exact h.2 a _ (same_err na nx ne) ⟨h.1, dx, upd_same, by rw [upd_ne ne, upd_same]⟩
/-- a value is equal to itself -/
def rEqSame (K : PySem.W.Frag) : R2 := fun x y H Q => ∃ d : PyData, x = y ∧ Da K H x d ∧ Q (.bl true) H
theorem op_eqSame {X : Cx} (hu : X.A.units + 64 < cLine) : OpR X (compareOp .Eq) (rEqSame X.K) := by
  rintro pins s σ H x y v u Q I rx ry ⟨d, rfl, hd, q⟩
  have two : ∀ {a : Addr} {xs : List V} {ds : List PyData}, DaAll X.K H xs ds → ∀ (i : Nat) (y z : V), xs[i]? = some y → xs[i]? = some z → Al H 0 y z := fun {a xs ds} l i y z e1 e2 => by
    obtain ⟨_, _, h⟩ := l.get e1
    rw [e1] at e2
    cases e2
    exact .same h.plain
  have sc : ∀ z : V, scal z z = true → x = z → wpAny (model X.prog X.w) X.A (compareOp .Eq v u) (EP X pins σ Q) X.xe s := fun z hz e => by
    subst e
    refine op_eq pins s σ H x x v u Q I rx ry ⟨hz, ?_⟩
    rw [decide_eq_true rfl]
    exact q
  cases hd with
  | non => exact sc _ rfl rfl
  | bl b => exact sc _ rfl rfl
  | int i => exact sc _ rfl rfl
  | str y => exact sc _ rfl rfl
  | @lst a _ _ e l => exact op_eqL hu pins s σ H _ _ v u Q I rx ry ⟨⟨0, by decide, .lst e e rfl (two (a := a) l)⟩, q⟩
  | @tup a _ _ e l => exact op_eqL hu pins s σ H _ _ v u Q I rx ry ⟨⟨0, by decide, .tup e e rfl (two (a := a) l)⟩, q⟩
  | @dic a e => exact op_eq_dict (by omega) pins s σ H _ _ v u Q I rx ry ⟨a, a, [], rfl, rfl, e, e, List.nodup_nil, nofun, q⟩
end Fd

set_option maxRecDepth 100000
set_option maxHeartbeats 4000000
namespace My
open PySem PySem.Spec PyProof.Rows L2 Fd
def top (i : Nat) : Stmt := PySem.Challenge.pw_trulymade_k03_errors_apart.main.body.getD i (.Pass ⟨0, 0, 0, 0⟩)
abbrev s_law_tape : Stmt := top 28
theorem sc_law_tape : FnScope ["script"] ["script"] (defScope s_law_tape) := ⟨rfl, rfl, rfl, by decide +kernel, rfl, by decide +kernel, by decide +kernel⟩
abbrev s_law_pick : Stmt := top 29
theorem sc_law_pick : FnScope ["tape", "size", "digit", "cell", "mixed"] ["tape", "size"] (defScope s_law_pick) := ⟨rfl, rfl, rfl, by decide +kernel, rfl, by decide +kernel, by decide +kernel⟩
abbrev s_law_odd : Stmt := top 30
theorem sc_law_odd : FnScope ["tape", "kind"] ["tape"] (defScope s_law_odd) := ⟨rfl, rfl, rfl, by decide +kernel, rfl, by decide +kernel, by decide +kernel⟩
abbrev s_law_made : Stmt := top 31
theorem sc_law_made : FnScope ["kind", "value"] ["kind", "value"] (defScope s_law_made) := ⟨rfl, rfl, rfl, by decide +kernel, rfl, by decide +kernel, by decide +kernel⟩
abbrev s_law_kinds : Stmt := top 32
theorem sc_law_kinds : FnScope ["error", "kinds"] ["error"] (defScope s_law_kinds) := ⟨rfl, rfl, rfl, by decide +kernel, rfl, by decide +kernel, by decide +kernel⟩
abbrev s_law_right : Stmt := top 33
theorem sc_law_right : FnScope ["kind", "value", "error", "kinds", "k"] ["kind", "value"] (defScope s_law_right) := ⟨rfl, rfl, rfl, by decide +kernel, rfl, by decide +kernel, by decide +kernel⟩
abbrev s_law : Stmt := top 34
theorem sc_law : FnScope ["script", "tape", "first", "second", "value", "other"] ["script"] (defScope s_law) := ⟨rfl, rfl, rfl, by decide +kernel, rfl, by decide +kernel, by decide +kernel⟩

def spMade (K : PySem.W.Frag) (cs : List Addr) : Sp := fun vs H Q _ => ∃ (k : Nat) (v : V), vs = [.int (k : Int), v] ∧ k < 25 ∧ ∀ a H', Same H H' → ErrAt K H' a (cs.getD k 0) (if k < 20 then v else .non) → Q (.ref a) H'
def spKinds (K : PySem.W.Frag) (cs : List Addr) : Sp := fun vs H Q _ => ∃ (a : Addr) (k : Nat) (v : V), vs = [.ref a] ∧ k < 25 ∧ ErrAt K H a (cs.getD k 0) v ∧ ∀ p H', Same H H' → H' p = some (.lst ((List.range 25).map fun j => V.bl (decide (k = j)))) → Q (.ref p) H'
def spRight (K : PySem.W.Frag) : Sp := fun vs H Q _ => ∃ (k : Nat) (v : V) (d : PyData), vs = [.int (k : Int), v] ∧ k < 25 ∧ Da K H v d ∧ Fn d 5000 3 ∧ ∀ H', Same H H' → Q (.bl true) H'

def kitTab (K : PySem.W.Frag) (cs : List Addr) (M : Addr) : Bool := (List.range 25).all fun k => PySem.W.kitOne K (.ref (cs.getD k 0)) (.ref M) == some true && (PySem.W.kitOne K (.ref (cs.getD k 0)) (.type "ValueError") == some true && (List.range 25).all fun j => PySem.W.kitOne K (.ref (cs.getD k 0)) (.ref (cs.getD j 0)) == some (decide (k = j)))
theorem kitTab_ok {K : PySem.W.Frag} {cs : List Addr} {M : Addr} (h : kitTab K cs M = true) : (∀ k j, k < 25 → j < 25 → PySem.W.kitOne K (.ref (cs.getD k 0)) (.ref (cs.getD j 0)) = some (decide (k = j))) ∧
    (∀ k, k < 25 → PySem.W.kitOne K (.ref (cs.getD k 0)) (.ref M) = some true) ∧ ∀ k, k < 25 → PySem.W.kitOne K (.ref (cs.getD k 0)) (.type "ValueError") = some true := by
  have row : ∀ k, k < 25 → _ := fun k hk => List.all_eq_true.mp h k (List.mem_range.mpr hk)
  refine ⟨fun k j hk hj => ?_, fun k hk => ?_, fun k hk => ?_⟩
  · have z := (Bool.and_eq_true_iff.mp (Bool.and_eq_true_iff.mp (row k hk)).2).2
    exact beq_iff_eq.mp (List.all_eq_true.mp z j (List.mem_range.mpr hj))
  · exact beq_iff_eq.mp (Bool.and_eq_true_iff.mp (row k hk)).1
  · exact beq_iff_eq.mp (Bool.and_eq_true_iff.mp (Bool.and_eq_true_iff.mp (row k hk)).2).1

structure Tx (K : PySem.W.Frag) (mg : Str → Option Value) (fI c_MadeError c_BadName c_BadRow c_BadThing c_BadForm c_BadSign c_BadRule c_BadText c_BadParts c_BadOthers c_BadCount c_BadBook c_BadFlag c_BadPlace c_BadClaim c_BadWorld c_BadKept c_BadWord c_NoPaper c_BadPlanned c_BadClaims c_Clashes c_TooMany c_TooLong c_Finished c_NothingDone i_Clashes i_Finished i_NothingDone i_TooLong i_TooMany : Addr) : Prop where
  n : Nms mg
  x_MadeError : Ex K mg "MadeError" c_MadeError fI
  e_MadeError : Ec K c_MadeError
  x_BadName : Ex K mg "BadName" c_BadName fI
  e_BadName : Ec K c_BadName
  x_BadRow : Ex K mg "BadRow" c_BadRow fI
  e_BadRow : Ec K c_BadRow
  x_BadThing : Ex K mg "BadThing" c_BadThing fI
  e_BadThing : Ec K c_BadThing
  x_BadForm : Ex K mg "BadForm" c_BadForm fI
  e_BadForm : Ec K c_BadForm
  x_BadSign : Ex K mg "BadSign" c_BadSign fI
  e_BadSign : Ec K c_BadSign
  x_BadRule : Ex K mg "BadRule" c_BadRule fI
  e_BadRule : Ec K c_BadRule
  x_BadText : Ex K mg "BadText" c_BadText fI
  e_BadText : Ec K c_BadText
  x_BadParts : Ex K mg "BadParts" c_BadParts fI
  e_BadParts : Ec K c_BadParts
  x_BadOthers : Ex K mg "BadOthers" c_BadOthers fI
  e_BadOthers : Ec K c_BadOthers
  x_BadCount : Ex K mg "BadCount" c_BadCount fI
  e_BadCount : Ec K c_BadCount
  x_BadBook : Ex K mg "BadBook" c_BadBook fI
  e_BadBook : Ec K c_BadBook
  x_BadFlag : Ex K mg "BadFlag" c_BadFlag fI
  e_BadFlag : Ec K c_BadFlag
  x_BadPlace : Ex K mg "BadPlace" c_BadPlace fI
  e_BadPlace : Ec K c_BadPlace
  x_BadClaim : Ex K mg "BadClaim" c_BadClaim fI
  e_BadClaim : Ec K c_BadClaim
  x_BadWorld : Ex K mg "BadWorld" c_BadWorld fI
  e_BadWorld : Ec K c_BadWorld
  x_BadKept : Ex K mg "BadKept" c_BadKept fI
  e_BadKept : Ec K c_BadKept
  x_BadWord : Ex K mg "BadWord" c_BadWord fI
  e_BadWord : Ec K c_BadWord
  x_NoPaper : Ex K mg "NoPaper" c_NoPaper fI
  e_NoPaper : Ec K c_NoPaper
  x_BadPlanned : Ex K mg "BadPlanned" c_BadPlanned fI
  e_BadPlanned : Ec K c_BadPlanned
  x_BadClaims : Ex K mg "BadClaims" c_BadClaims fI
  e_BadClaims : Ec K c_BadClaims
  x_Clashes : Ex K mg "Clashes" c_Clashes i_Clashes
  e_Clashes : Ec K c_Clashes
  x_TooMany : Ex K mg "TooMany" c_TooMany i_TooMany
  e_TooMany : Ec K c_TooMany
  x_TooLong : Ex K mg "TooLong" c_TooLong i_TooLong
  e_TooLong : Ec K c_TooLong
  x_Finished : Ex K mg "Finished" c_Finished i_Finished
  e_Finished : Ec K c_Finished
  x_NothingDone : Ex K mg "NothingDone" c_NothingDone i_NothingDone
  e_NothingDone : Ec K c_NothingDone
  kit : ∀ k j, k < 25 → j < 25 → PySem.W.kitOne K (.ref ([c_BadBook, c_BadClaim, c_BadClaims, c_BadCount, c_BadFlag, c_BadForm, c_BadKept, c_BadName, c_BadOthers, c_BadParts, c_BadPlace, c_BadPlanned, c_BadRow, c_BadRule, c_BadSign, c_BadText, c_BadThing, c_BadWord, c_BadWorld, c_NoPaper, c_Clashes, c_Finished, c_NothingDone, c_TooLong, c_TooMany].getD k 0)) (.ref ([c_BadBook, c_BadClaim, c_BadClaims, c_BadCount, c_BadFlag, c_BadForm, c_BadKept, c_BadName, c_BadOthers, c_BadParts, c_BadPlace, c_BadPlanned, c_BadRow, c_BadRule, c_BadSign, c_BadText, c_BadThing, c_BadWord, c_BadWorld, c_NoPaper, c_Clashes, c_Finished, c_NothingDone, c_TooLong, c_TooMany].getD j 0)) = some (decide (k = j))
  kitM : ∀ k, k < 25 → PySem.W.kitOne K (.ref ([c_BadBook, c_BadClaim, c_BadClaims, c_BadCount, c_BadFlag, c_BadForm, c_BadKept, c_BadName, c_BadOthers, c_BadParts, c_BadPlace, c_BadPlanned, c_BadRow, c_BadRule, c_BadSign, c_BadText, c_BadThing, c_BadWord, c_BadWorld, c_NoPaper, c_Clashes, c_Finished, c_NothingDone, c_TooLong, c_TooMany].getD k 0)) (.ref c_MadeError) = some true
  kitV : ∀ k, k < 25 → PySem.W.kitOne K (.ref ([c_BadBook, c_BadClaim, c_BadClaims, c_BadCount, c_BadFlag, c_BadForm, c_BadKept, c_BadName, c_BadOthers, c_BadParts, c_BadPlace, c_BadPlanned, c_BadRow, c_BadRule, c_BadSign, c_BadText, c_BadThing, c_BadWord, c_BadWorld, c_NoPaper, c_Clashes, c_Finished, c_NothingDone, c_TooLong, c_TooMany].getD k 0)) (.type "ValueError") = some true
section
variable {P : Program} {w : World} {K : PySem.W.Frag} {mg : Str → Option Value} {base : Heap} {fI c_MadeError c_BadName c_BadRow c_BadThing c_BadForm c_BadSign c_BadRule c_BadText c_BadParts c_BadOthers c_BadCount c_BadBook c_BadFlag c_BadPlace c_BadClaim c_BadWorld c_BadKept c_BadWord c_NoPaper c_BadPlanned c_BadClaims c_Clashes c_TooMany c_TooLong c_Finished c_NothingDone i_Clashes i_Finished i_NothingDone i_TooLong i_TooMany : Addr}
theorem ok_law_tape (T : Tx K mg fI c_MadeError c_BadName c_BadRow c_BadThing c_BadForm c_BadSign c_BadRule c_BadText c_BadParts c_BadOthers c_BadCount c_BadBook c_BadFlag c_BadPlace c_BadClaim c_BadWorld c_BadKept c_BadWord c_NoPaper c_BadPlanned c_BadClaims c_Clashes c_TooMany c_TooLong c_Finished c_NothingDone i_Clashes i_Finished i_NothingDone i_TooLong i_TooMany) (D : Dx K mg "_law_tape" s_law_tape ["script"]) : Pr P w K mg base 1 "_law_tape" ["script"] (spTape K) := by
  refine D.pr sc_law_tape (fun vs H Q E h => ?_) (fun f cdv A outer s H vs Q E hr h => ⟨_,
      (pss_one (ps_ret (pe_lst (pa_cons (pe_callTy call_list_of (by rfl) T.n.n_list (by decide +kernel) (pa_cons (pv 0) pa_nil)) (pa_cons pe_int (pa_cons pe_int (pa_cons pe_int (pa_cons pe_int pa_nil)))))))), ?_⟩)
  · obtain ⟨a, ns, rfl, _⟩ := h
    rfl
  obtain ⟨a, ns, rfl, hS, hl, q⟩ := h
  refine ⟨_, rfl, a, _, rfl, .inl hS, fun l nl => ⟨by show 5 ≤ sizeLine; decide, fun p np => ?_⟩⟩
  have nlp : l ≠ p := fun e => by
    rw [← e, upd_same] at np
    cases np
  have np' : H p = none := (same_new nl).free np
  refine q p l _ np' ((same_new nl).trans (same_new np)) ⟨_, upd_same, ns, 0, 0, 1, 0, rfl, ?_, by omega, by omega, by omega⟩
  rw [upd_ne nlp, upd_same]

theorem ok_law_pick (T : Tx K mg fI c_MadeError c_BadName c_BadRow c_BadThing c_BadForm c_BadSign c_BadRule c_BadText c_BadParts c_BadOthers c_BadCount c_BadBook c_BadFlag c_BadPlace c_BadClaim c_BadWorld c_BadKept c_BadWord c_NoPaper c_BadPlanned c_BadClaims c_Clashes c_TooMany c_TooLong c_Finished c_NothingDone i_Clashes i_Finished i_NothingDone i_TooLong i_TooMany) (D : Dx K mg "_law_pick" s_law_pick ["tape", "size"]) : Pr P w K mg base 1 "_law_pick" ["tape", "size"] spPick := by
  refine D.pr sc_law_pick (fun vs H Q E h => ?_) (fun f cdv A outer s H vs Q E hr h => ⟨_,
      (pss_cons (ps_if (pt_cmpR op_gt (pe_ix ix_list (pv 0) pe_int (fun _ _ => rfl)) pe_int (nomark _))
        (pss_cons (ps_set (i := 2) sc_law_pick.nd rfl (Or.inl rfl) (pe_op op_mod (pe_callTy call_int1 (by rfl) T.n.n_int (by decide +kernel) (pa_cons (pe_ix ix_list (pv 0) pe_int (fun _ _ => rfl)) pa_nil)) (pv 1)))
        (pss_cons (ps_asg (pe_op op_fdivW (pe_ix ix_list (pv 0) pe_int (fun _ _ => rfl)) (pv 1)) (pg_sub (pv 0) pe_int set_list))
        (pss_one (ps_ret (pv 2)))))
        pss_nil)
      (pss_cons (ps_asg (pe_op op_add (pe_ix ix_list (pv 0) pe_int (fun _ _ => rfl)) pe_int) (pg_sub (pv 0) pe_int set_list))
      (pss_cons (ps_set (i := 3) sc_law_pick.nd rfl (Or.inl rfl) pe_int)
      (Evl.pss_cut (ps_if (pt_cmpR op_lt (pe_ix ix_list (pv 0) pe_int (fun _ _ => rfl)) (pe_callB call_len (by rfl) T.n.n_len (by decide +kernel) (pa_cons (pe_ix ix_list (pv 0) pe_int (fun _ _ => rfl)) pa_nil)) (nomark _))
        (pss_cons (ps_set (i := 3) sc_law_pick.nd rfl (Or.inl rfl) (pe_ix ix_list (pe_ix ix_list (pv 0) pe_int (fun _ _ => rfl)) (pe_ix ix_list (pv 0) pe_int (fun _ _ => rfl)) (fun _ _ => rfl)))
        (pss_one (ps_asg (pe_op op_add (pe_ix ix_list (pv 0) pe_int (fun _ _ => rfl)) pe_int) (pg_sub (pv 0) pe_int set_list))))
        pss_nil)
      (pss_cons (ps_if (pt_cmpR op_ge (pv 3) (pe_op op_pow pe_int pe_int) (nomark _))
        (pss_cons (ps_asg (pe_op op_fdivW (pv 3) (pv 1)) (pg_sub (pv 0) pe_int set_list))
        (pss_one (ps_ret (pe_op op_mod (pe_callTy call_int1 (by rfl) T.n.n_int (by decide +kernel) (pa_cons (pv 3) pa_nil)) (pv 1)))))
        pss_nil)
      (pss_cons (ps_set (i := 4) sc_law_pick.nd rfl (Or.inl rfl) (pe_op op_mod (pe_callTy call_int1 (by rfl) T.n.n_int (by decide +kernel) (pa_cons (pe_op op_add (pe_op op_add (pe_op op_mul (pe_ix ix_list (pv 0) pe_int (fun _ _ => rfl)) pe_int) (pe_op op_mod (pe_callTy call_int1 (by rfl) T.n.n_int (by decide +kernel) (pa_cons (pv 3) pa_nil)) pe_int)) (pe_op op_mul (pe_ix ix_list (pv 0) pe_int (fun _ _ => rfl)) pe_int)) pa_nil)) pe_int))
      (pss_cons (ps_set (i := 4) sc_law_pick.nd rfl (Or.inl rfl) (pe_op op_mod (pe_callTy call_int1 (by rfl) T.n.n_int (by decide +kernel) (pa_cons (pe_op op_mul (pv 4) (pe_op op_add (pe_op op_fdivW (pv 4) pe_int) pe_int)) pa_nil)) pe_int))
      (pss_cons (ps_asg (pv 4) (pg_sub (pv 0) pe_int set_list))
      (pss_one (ps_ret (pe_op op_mod (pe_callTy call_int1 (by rfl) T.n.n_int (by decide +kernel) (pa_cons (pe_op op_fdivW (pv 4) pe_int) pa_nil)) (pv 1)))))))))))), ?_⟩)
  · obtain ⟨t, c, size, rfl, _⟩ := h
    rfl
  obtain ⟨t, c, size, rfl, s0, s1, ⟨T0, hT, xs, pos, rest, mix, cnt, rfl, hc, hp, hm0, hm1⟩, q⟩ := h
  have ne : c ≠ t := tape_ne hT hc
  have dw : CDivW rest size := wide_div s0 (show size.natAbs < 2 ^ 30 by omega) (by decide) (by decide)
  have goU : ∀ {H' : Hp} {T' : List V}, (∀ b o, b ≠ t → H b = some o → H' b = some o) → H' t = some (.lst T') → (∃ (pos rest mix cnt : Int), T' = [.ref c, .int pos, .int rest, .int mix, .int cnt] ∧ 0 ≤ pos ∧ 0 ≤ mix ∧ mix < 2147483648) → Go t c H H' := by
    rintro H' T' k e ⟨p1, r1, m1, c1, rfl, h1, h2, h3⟩
    exact ⟨k, _, e, xs, p1, r1, m1, c1, rfl, k c _ ne hc, h1, h2, h3⟩
  dsimp only [cxOf]
  -- tape[2] > 1
  refine ⟨_, rfl, t, _, _, _, rfl, rfl, SqL.of hT, rfl, _, _, rfl, rfl, _, rfl, ?_⟩
  refine ite2 (fun _ => ?_) (fun _ => ?_)
  · refine ⟨_, rfl, t, _, _, _, rfl, rfl, SqL.of hT, rfl, .inl ⟨_, rfl, _, rfl, _, _, rfl, rfl, s0, ?_⟩⟩
    refine ⟨_, rfl, t, _, _, _, rfl, rfl, SqL.of hT, rfl, _, rfl, _, _, rfl, rfl, dw, ?_⟩
    refine ⟨_, rfl, t, _, _, 2, rfl, rfl, hT, rfl, ?_⟩
    refine ⟨_, rfl, q _ _ (Int.emod_nonneg _ (by omega)) (Int.emod_lt_of_pos _ s0) (goU (fun b o nb e => by rw [upd_ne nb]; exact e) upd_same ⟨_, _, _, _, rfl, hp, hm0, hm1⟩)⟩
  -- tape[4] = tape[4] + 1
  refine ⟨_, rfl, t, _, _, _, rfl, rfl, SqL.of hT, rfl, _, _, rfl, rfl, ?_⟩
  refine ⟨_, rfl, t, _, _, 4, rfl, rfl, hT, rfl, ?_⟩
  -- cell
  refine ⟨fun σ' H' => ∃ (cell pos' : Int) (y2 y4 : Option V), σ' = [some (.ref t), some (.int size), y2, some (.int cell), y4] ∧ 0 ≤ pos' ∧ (∀ b o, b ≠ t → H b = some o → H' b = some o) ∧ H' t = some (.lst [.ref c, .int pos', .int rest, .int mix, .int (cnt + 1)]), ?_, ?_⟩
  · have hT1 : (upd H t (HO.lst (List.set [V.ref c, V.int pos, V.int rest, V.int mix, V.int cnt] 4 (V.int (cnt + 1))))) t = some (.lst [.ref c, .int pos, .int rest, .int mix, .int (cnt + 1)]) := upd_same
    have hc1 : (upd H t (HO.lst (List.set [V.ref c, V.int pos, V.int rest, V.int mix, V.int cnt] 4 (V.int (cnt + 1))))) c = some (.lst (xs.map V.int)) := by rw [upd_ne ne]; exact hc
    have k1 : ∀ b o, b ≠ t → H b = some o → (upd H t (HO.lst (List.set [V.ref c, V.int pos, V.int rest, V.int mix, V.int cnt] 4 (V.int (cnt + 1))))) b = some o := fun b o nb e => by rw [upd_ne nb]; exact e
    generalize upd H t (HO.lst (List.set [V.ref c, V.int pos, V.int rest, V.int mix, V.int cnt] 4 (V.int (cnt + 1)))) = H1 at hT1 hc1 k1 ⊢
    refine ⟨_, rfl, t, _, _, _, rfl, rfl, SqL.of hT1, rfl, _, rfl, t, _, _, _, rfl, rfl, SqL.of hT1, rfl, _, _, rfl, .inl ⟨_, SqL.of hc1, rfl⟩, _, _, rfl, rfl, _, rfl, ?_⟩
    refine ite2 (fun hlt => ?_) (fun _ => ?_)
    · obtain ⟨j, rfl⟩ := Int.eq_ofNat_of_zero_le hp
      have hj : j < (xs.map V.int).length := by simpa using hlt
      have hj' : j < xs.length := by simpa using hj
      have at1 : atI (xs.map V.int) (j : Int) = some (V.int xs[j]) := atI_nat (by rw [List.getElem?_map, List.getElem?_eq_getElem hj']; rfl)
      refine ⟨_, rfl, t, _, _, _, rfl, rfl, SqL.of hT1, rfl, _, rfl, t, _, _, _, rfl, rfl, SqL.of hT1, rfl, c, _, _, _, rfl, rfl, SqL.of hc1, at1, ?_⟩
      refine ⟨_, rfl, t, _, _, _, rfl, rfl, SqL.of hT1, rfl, _, _, rfl, rfl, _, rfl, t, _, _, 1, rfl, rfl, hT1, rfl, ?_⟩
      exact ⟨_, _, _, _, rfl, by omega, fun b o nb e => by rw [upd_ne nb]; exact k1 b o nb e, upd_same⟩
    · exact ⟨_, _, _, _, rfl, hp, k1, hT1⟩
  · rintro σ' H' ⟨cell, pos', y2, y4, rfl, hp', k1, hT1⟩
    have dw2 : CDivW cell size := wide_div s0 (show size.natAbs < 2 ^ 30 by omega) (by decide) (by decide)
    refine ⟨_, rfl, _, _, rfl, rfl, ⟨by decide, by decide, by decide⟩, _, _, rfl, rfl, _, rfl, ?_⟩
    refine ite2 (fun _ => ?_) (fun _ => ?_)
    · refine ⟨_, rfl, _, rfl, _, _, rfl, rfl, dw2, _, rfl, t, _, _, 2, rfl, rfl, hT1, rfl, ?_⟩
      refine ⟨_, rfl, .inl ⟨_, rfl, _, rfl, _, _, rfl, rfl, s0, ?_⟩⟩
      exact q _ _ (Int.emod_nonneg _ (by omega)) (Int.emod_lt_of_pos _ s0) (goU (fun b o nb e => by rw [upd_ne nb]; exact k1 b o nb e) upd_same ⟨_, _, _, _, rfl, hp', hm0, hm1⟩)
    · refine ⟨_, rfl, t, _, _, _, rfl, rfl, SqL.of hT1, rfl, _, _, rfl, rfl, .inr (by decide), _, rfl, .inl ⟨_, rfl, _, _, rfl, rfl, (show (0 : Int) < 2147483629 by decide), ?_⟩⟩
      refine ⟨_, _, rfl, rfl, _, rfl, t, _, _, _, rfl, rfl, SqL.of hT1, rfl, _, _, rfl, rfl, .inr (by decide), _, _, rfl, rfl, .inl ⟨_, rfl, _, _, rfl, rfl, (show (0 : Int) < 2147483647 by decide), ?_⟩⟩
      have b1 : ∀ z : Int, 0 ≤ z % 2147483647 ∧ z % 2147483647 < 2147483647 := fun z => by omega
      have b2 : ∀ z : Int, 0 ≤ z % 2147483399 ∧ z % 2147483399 < 2147483399 := fun z => by omega
      refine ⟨_, rfl, _, rfl, _, _, rfl, rfl, ⟨by decide, by decide⟩, _, _, rfl, rfl, _, _, rfl, rfl, .inl ⟨Int.lt_of_lt_of_le (by decide) (b1 _).1, Int.lt_trans (b1 _).2 (by decide)⟩, .inl ⟨_, rfl, _, _, rfl, rfl, (show (0 : Int) < 2147483399 by decide), ?_⟩⟩
      refine ⟨_, rfl, _, rfl, t, _, _, 3, rfl, rfl, hT1, rfl, ?_⟩
      refine ⟨_, rfl, _, _, rfl, rfl, ⟨by decide, by decide⟩, .inl ⟨_, rfl, _, rfl, _, _, rfl, rfl, s0, ?_⟩⟩
      exact q _ _ (Int.emod_nonneg _ (by omega)) (Int.emod_lt_of_pos _ s0) (goU (fun b o nb e => by rw [upd_ne nb]; exact k1 b o nb e) upd_same ⟨_, _, _, _, rfl, hp', (b2 _).1, Int.lt_trans (b2 _).2 (by decide)⟩)

theorem ok_law_odd (T : Tx K mg fI c_MadeError c_BadName c_BadRow c_BadThing c_BadForm c_BadSign c_BadRule c_BadText c_BadParts c_BadOthers c_BadCount c_BadBook c_BadFlag c_BadPlace c_BadClaim c_BadWorld c_BadKept c_BadWord c_NoPaper c_BadPlanned c_BadClaims c_Clashes c_TooMany c_TooLong c_Finished c_NothingDone i_Clashes i_Finished i_NothingDone i_TooLong i_TooMany) (D : Dx K mg "_law_odd" s_law_odd ["tape"]) (C_law_pick : Pr P w K mg base 1 "_law_pick" ["tape", "size"] spPick) : Pr P w K mg base 2 "_law_odd" ["tape"] (spOdd K) := by
  refine D.pr sc_law_odd (fun vs H Q E h => ?_) (fun f cdv A outer s H vs Q E hr h => ⟨_,
      (pss_cons (ps_set (i := 1) sc_law_odd.nd rfl (Or.inl rfl) (pe_callP C_law_pick (hr.mono (by decide)) (by rfl) (passes_call (takes_of rfl rfl rfl rfl) fun _ _ _ _ z => z) (pa_cons (pv 0) (pa_cons pe_int pa_nil))))
      (pss_cons (ps_if (pt_cmpR op_eq (pv 1) pe_int (nomark _))
        (pss_one (ps_ret pe_non))
        pss_nil)
      (pss_cons (ps_if (pt_cmpR op_eq (pv 1) pe_int (nomark _))
        (pss_one (ps_ret pe_bl))
        pss_nil)
      (pss_cons (ps_if (pt_cmpR op_eq (pv 1) pe_int (nomark _))
        (pss_one (ps_ret pe_str))
        pss_nil)
      (pss_cons (ps_if (pt_cmpR op_eq (pv 1) pe_int (nomark _))
        (pss_one (ps_ret pe_dnewK))
        pss_nil)
      (pss_cons (ps_if (pt_cmpR op_eq (pv 1) pe_int (nomark _))
        (pss_one (ps_ret (pe_op op_add pe_int (pe_callP C_law_pick (hr.mono (by decide)) (by rfl) (passes_call (takes_of rfl rfl rfl rfl) fun _ _ _ _ z => z) (pa_cons (pv 0) (pa_cons pe_int pa_nil))))))
        pss_nil)
      (pss_cons (ps_if (pt_cmpR op_eq (pv 1) pe_int (nomark _))
        (pss_one (ps_ret (pe_op op_sub (pe_un un_neg pe_int) (pe_callP C_law_pick (hr.mono (by decide)) (by rfl) (passes_call (takes_of rfl rfl rfl rfl) fun _ _ _ _ z => z) (pa_cons (pv 0) (pa_cons pe_int pa_nil))))))
        pss_nil)
      (pss_cons (ps_if (pt_cmpR op_eq (pv 1) pe_int (nomark _))
        (pss_one (ps_ret (pe_lst (pa_cons pe_int (pa_cons pe_int pa_nil)))))
        pss_nil)
      (pss_cons (ps_if (pt_cmpR op_eq (pv 1) pe_int (nomark _))
        (pss_one (ps_ret (pe_tup (pa_cons pe_int (pa_cons pe_int pa_nil)))))
        pss_nil)
      (pss_cons (ps_if (pt_cmpR op_eq (pv 1) pe_int (nomark _))
        (pss_one (ps_ret pe_str))
        pss_nil)
      (pss_cons (ps_if (pt_cmpR op_eq (pv 1) pe_int (nomark _))
        (pss_one (ps_ret pe_bl))
        pss_nil)
      (pss_cons (ps_if (pt_cmpR op_eq (pv 1) pe_int (nomark _))
        (pss_one (ps_ret (pe_op op_pow pe_int pe_int)))
        pss_nil)
      (pss_one (ps_ret (pe_lst (pa_cons (pe_lst (pa_cons pe_int pa_nil)) (pa_cons pe_int pa_nil))))))))))))))))), ?_⟩)
  · obtain ⟨t, c, rfl, _⟩ := h
    rfl
  obtain ⟨t, c, rfl, hT, q⟩ := h
  refine ⟨_, rfl, t, c, 12, rfl, by decide, by decide, hT, fun k H1 k0 k1 g1 => ?_⟩
  have oi : ∀ i : Int, -1000 ≤ i → i ≤ 100000000000000000000 → Odd (.int i) := fun i h0 h1 => ⟨(Fn.int (nat45 (by omega) h1)).le (by decide) (by decide), Nat.zero_le _⟩
  have two : ∀ x y : Int, 0 ≤ x → x < 5 → 0 ≤ y → y < 5 → ∀ z ∈ [x, y], z.natAbs < 10 ^ 45 := fun x y x0 x1 y0 y1 z hz => by
    have hz' : z = x ∨ z = y := by simpa using hz
    exact nat45 (by omega) (by omega)
  refine ⟨_, rfl, rfl, _, rfl, ?_⟩
  refine ite2 (fun _ => ?_) (fun _ => ?_)
  · exact q .non .none H1 ⟨Fn.non.le (by decide) (by decide), by decide⟩ .non g1
  refine ⟨_, rfl, rfl, _, rfl, ?_⟩
  refine ite2 (fun _ => ?_) (fun _ => ?_)
  · exact q (.bl true) (.bool true) H1 ⟨(Fn.bl true).le (by decide) (by decide), by decide⟩ (.bl true) g1
  refine ⟨_, rfl, rfl, _, rfl, ?_⟩
  refine ite2 (fun _ => ?_) (fun _ => ?_)
  · exact q (.str "abc") (.str "abc") H1 ⟨(Fn.str (n := 5) (by decide +kernel)).le (by decide) (by decide), by decide⟩ (.str "abc") g1
  refine ⟨_, rfl, rfl, _, rfl, ?_⟩
  refine ite2 (fun _ => ?_) (fun _ => ?_)
  · exact fun p np => q (.ref p) (.dict []) _ ⟨Fn.dic.le (by decide) (by decide), by decide⟩ (.dic (newer_of (g1.free np) upd_same)) (g1.new np)
  refine ⟨_, rfl, rfl, _, rfl, ?_⟩
  refine ite2 (fun _ => ?_) (fun _ => ?_)
  · exact ⟨_, rfl, t, c, 3, rfl, by decide, by decide, g1.tape, fun e H2 e0 e1 g2 => ⟨_, _, rfl, rfl, q _ _ _ (oi _ (by omega) (by omega)) (.int _) (g1.trans g2)⟩⟩
  refine ⟨_, rfl, rfl, _, rfl, ?_⟩
  refine ite2 (fun _ => ?_) (fun _ => ?_)
  · exact ⟨_, rfl, _, rfl, t, c, 3, rfl, by decide, by decide, g1.tape, fun e H2 e0 e1 g2 => ⟨_, _, rfl, rfl, q _ _ _ (oi _ (by omega) (by omega)) (.int _) (g1.trans g2)⟩⟩
  refine ⟨_, rfl, rfl, _, rfl, ?_⟩
  refine ite2 (fun _ => ?_) (fun _ => ?_)
  · exact ⟨by show 2 ≤ sizeLine; decide, fun p np => q (.ref p) (.list ([1, 2].map PyData.int)) _ (odd_ints (two 1 2 (by decide) (by decide) (by decide) (by decide)) (by decide)).1 (.lst (newer_of (g1.free np) upd_same) (.ints [1, 2])) (g1.new np)⟩
  refine ⟨_, rfl, rfl, _, rfl, ?_⟩
  refine ite2 (fun _ => ?_) (fun _ => ?_)
  · exact ⟨by show 2 ≤ sizeLine; decide, fun p np => q (.ref p) (.tuple ([0, 1].map PyData.int)) _ (odd_ints (two 0 1 (by decide) (by decide) (by decide) (by decide)) (by decide)).2 (.tup (newer_of (g1.free np) upd_same) (.ints [0, 1])) (g1.new np)⟩
  refine ⟨_, rfl, rfl, _, rfl, ?_⟩
  refine ite2 (fun _ => ?_) (fun _ => ?_)
  · exact q (.str "") (.str "") H1 ⟨(Fn.str (n := 5) (by decide +kernel)).le (by decide) (by decide), by decide⟩ (.str "") g1
  refine ⟨_, rfl, rfl, _, rfl, ?_⟩
  refine ite2 (fun _ => ?_) (fun _ => ?_)
  · exact q (.bl false) (.bool false) H1 ⟨(Fn.bl false).le (by decide) (by decide), by decide⟩ (.bl false) g1
  refine ⟨_, rfl, rfl, _, rfl, ?_⟩
  refine ite2 (fun _ => ?_) (fun _ => ?_)
  · refine ⟨_, _, rfl, rfl, ⟨by decide, by decide, by decide⟩, ?_⟩
    exact q (.int ((10 : Int) ^ (20 : Int).toNat)) _ H1 (oi _ (by decide) (by decide)) (.int _) g1
  refine ⟨by show 1 ≤ sizeLine; decide, fun p np => ⟨by show 2 ≤ sizeLine; decide, fun p2 np2 => ?_⟩⟩
  have ne : p ≠ p2 := fun e => by
    rw [← e, upd_same] at np2
    cases np2
  have g2 := g1.new (o := .lst [.int 1]) np
  have np2' : H p2 = none := g2.free np2
  have i1 : Fn (.list ([1].map PyData.int)) 50 1 := (Fn.lst (Fn.ints (ns := [1]) fun z hz => by rw [List.mem_singleton.mp hz]; decide)).le (by decide) (by decide)
  refine q (.ref p2) (.list [.list ([1].map PyData.int), .int 2]) _ ⟨(Fn.lst (n := 50) (k := 1) fun d hd => ?_).le (by decide) (by decide), by decide⟩
    (.lst (newer_of np2' upd_same) (.cons (.lst (newer_of (g1.free np) (by rw [upd_ne ne, upd_same]; rfl)) (.ints [1])) (.cons (.int 2) .nil))) (g2.new np2)
  rcases List.mem_cons.mp hd with e | hd
  · rw [e]
    exact i1
  · rw [List.mem_singleton.mp hd]
    exact (Fn.int (by decide)).le (by decide) (by decide)

theorem ok_law_made (T : Tx K mg fI c_MadeError c_BadName c_BadRow c_BadThing c_BadForm c_BadSign c_BadRule c_BadText c_BadParts c_BadOthers c_BadCount c_BadBook c_BadFlag c_BadPlace c_BadClaim c_BadWorld c_BadKept c_BadWord c_NoPaper c_BadPlanned c_BadClaims c_Clashes c_TooMany c_TooLong c_Finished c_NothingDone i_Clashes i_Finished i_NothingDone i_TooLong i_TooMany) (D : Dx K mg "_law_made" s_law_made ["kind", "value"]) (C_init : InitOk P w K mg base 1 fI) (I_Clashes : InitOk0 P w K mg base 2 i_Clashes) (I_Finished : InitOk0 P w K mg base 2 i_Finished) (I_NothingDone : InitOk0 P w K mg base 2 i_NothingDone) (I_TooLong : InitOk0 P w K mg base 2 i_TooLong) (I_TooMany : InitOk0 P w K mg base 2 i_TooMany) : Pr P w K mg base 4 "_law_made" ["kind", "value"] (spMade K [c_BadBook, c_BadClaim, c_BadClaims, c_BadCount, c_BadFlag, c_BadForm, c_BadKept, c_BadName, c_BadOthers, c_BadParts, c_BadPlace, c_BadPlanned, c_BadRow, c_BadRule, c_BadSign, c_BadText, c_BadThing, c_BadWord, c_BadWorld, c_NoPaper, c_Clashes, c_Finished, c_NothingDone, c_TooLong, c_TooMany]) := by
  refine D.pr sc_law_made (fun vs H Q E h => ?_) (fun f cdv A outer s H vs Q E hr h => ⟨_,
      (pss_cons (ps_if (pt_cmpR op_lt (pv 0) pe_int (nomark _))
        (pss_cons (ps_if (pt_cmpR op_eq (pv 0) pe_int (nomark _))
          (pss_one (ps_ret (pe_made1 T.x_BadBook C_init (hr.mono (by decide)) (passes_call (takes_of rfl rfl rfl rfl) fun _ _ _ _ z => z.elim) (by rfl) (pv 1))))
          pss_nil)
        (pss_cons (ps_if (pt_cmpR op_eq (pv 0) pe_int (nomark _))
          (pss_one (ps_ret (pe_made1 T.x_BadClaim C_init (hr.mono (by decide)) (passes_call (takes_of rfl rfl rfl rfl) fun _ _ _ _ z => z.elim) (by rfl) (pv 1))))
          pss_nil)
        (pss_cons (ps_if (pt_cmpR op_eq (pv 0) pe_int (nomark _))
          (pss_one (ps_ret (pe_made1 T.x_BadClaims C_init (hr.mono (by decide)) (passes_call (takes_of rfl rfl rfl rfl) fun _ _ _ _ z => z.elim) (by rfl) (pv 1))))
          pss_nil)
        (pss_cons (ps_if (pt_cmpR op_eq (pv 0) pe_int (nomark _))
          (pss_one (ps_ret (pe_made1 T.x_BadCount C_init (hr.mono (by decide)) (passes_call (takes_of rfl rfl rfl rfl) fun _ _ _ _ z => z.elim) (by rfl) (pv 1))))
          pss_nil)
        (pss_cons (ps_if (pt_cmpR op_eq (pv 0) pe_int (nomark _))
          (pss_one (ps_ret (pe_made1 T.x_BadFlag C_init (hr.mono (by decide)) (passes_call (takes_of rfl rfl rfl rfl) fun _ _ _ _ z => z.elim) (by rfl) (pv 1))))
          pss_nil)
        (pss_cons (ps_if (pt_cmpR op_eq (pv 0) pe_int (nomark _))
          (pss_one (ps_ret (pe_made1 T.x_BadForm C_init (hr.mono (by decide)) (passes_call (takes_of rfl rfl rfl rfl) fun _ _ _ _ z => z.elim) (by rfl) (pv 1))))
          pss_nil)
        (pss_cons (ps_if (pt_cmpR op_eq (pv 0) pe_int (nomark _))
          (pss_one (ps_ret (pe_made1 T.x_BadKept C_init (hr.mono (by decide)) (passes_call (takes_of rfl rfl rfl rfl) fun _ _ _ _ z => z.elim) (by rfl) (pv 1))))
          pss_nil)
        (pss_cons (ps_if (pt_cmpR op_eq (pv 0) pe_int (nomark _))
          (pss_one (ps_ret (pe_made1 T.x_BadName C_init (hr.mono (by decide)) (passes_call (takes_of rfl rfl rfl rfl) fun _ _ _ _ z => z.elim) (by rfl) (pv 1))))
          pss_nil)
        (pss_cons (ps_if (pt_cmpR op_eq (pv 0) pe_int (nomark _))
          (pss_one (ps_ret (pe_made1 T.x_BadOthers C_init (hr.mono (by decide)) (passes_call (takes_of rfl rfl rfl rfl) fun _ _ _ _ z => z.elim) (by rfl) (pv 1))))
          pss_nil)
        (pss_one (ps_ret (pe_made1 T.x_BadParts C_init (hr.mono (by decide)) (passes_call (takes_of rfl rfl rfl rfl) fun _ _ _ _ z => z.elim) (by rfl) (pv 1)))))))))))))
        pss_nil)
      (pss_cons (ps_if (pt_cmpR op_lt (pv 0) pe_int (nomark _))
        (pss_cons (ps_if (pt_cmpR op_eq (pv 0) pe_int (nomark _))
          (pss_one (ps_ret (pe_made1 T.x_BadPlace C_init (hr.mono (by decide)) (passes_call (takes_of rfl rfl rfl rfl) fun _ _ _ _ z => z.elim) (by rfl) (pv 1))))
          pss_nil)
        (pss_cons (ps_if (pt_cmpR op_eq (pv 0) pe_int (nomark _))
          (pss_one (ps_ret (pe_made1 T.x_BadPlanned C_init (hr.mono (by decide)) (passes_call (takes_of rfl rfl rfl rfl) fun _ _ _ _ z => z.elim) (by rfl) (pv 1))))
          pss_nil)
        (pss_cons (ps_if (pt_cmpR op_eq (pv 0) pe_int (nomark _))
          (pss_one (ps_ret (pe_made1 T.x_BadRow C_init (hr.mono (by decide)) (passes_call (takes_of rfl rfl rfl rfl) fun _ _ _ _ z => z.elim) (by rfl) (pv 1))))
          pss_nil)
        (pss_cons (ps_if (pt_cmpR op_eq (pv 0) pe_int (nomark _))
          (pss_one (ps_ret (pe_made1 T.x_BadRule C_init (hr.mono (by decide)) (passes_call (takes_of rfl rfl rfl rfl) fun _ _ _ _ z => z.elim) (by rfl) (pv 1))))
          pss_nil)
        (pss_cons (ps_if (pt_cmpR op_eq (pv 0) pe_int (nomark _))
          (pss_one (ps_ret (pe_made1 T.x_BadSign C_init (hr.mono (by decide)) (passes_call (takes_of rfl rfl rfl rfl) fun _ _ _ _ z => z.elim) (by rfl) (pv 1))))
          pss_nil)
        (pss_cons (ps_if (pt_cmpR op_eq (pv 0) pe_int (nomark _))
          (pss_one (ps_ret (pe_made1 T.x_BadText C_init (hr.mono (by decide)) (passes_call (takes_of rfl rfl rfl rfl) fun _ _ _ _ z => z.elim) (by rfl) (pv 1))))
          pss_nil)
        (pss_cons (ps_if (pt_cmpR op_eq (pv 0) pe_int (nomark _))
          (pss_one (ps_ret (pe_made1 T.x_BadThing C_init (hr.mono (by decide)) (passes_call (takes_of rfl rfl rfl rfl) fun _ _ _ _ z => z.elim) (by rfl) (pv 1))))
          pss_nil)
        (pss_cons (ps_if (pt_cmpR op_eq (pv 0) pe_int (nomark _))
          (pss_one (ps_ret (pe_made1 T.x_BadWord C_init (hr.mono (by decide)) (passes_call (takes_of rfl rfl rfl rfl) fun _ _ _ _ z => z.elim) (by rfl) (pv 1))))
          pss_nil)
        (pss_cons (ps_if (pt_cmpR op_eq (pv 0) pe_int (nomark _))
          (pss_one (ps_ret (pe_made1 T.x_BadWorld C_init (hr.mono (by decide)) (passes_call (takes_of rfl rfl rfl rfl) fun _ _ _ _ z => z.elim) (by rfl) (pv 1))))
          pss_nil)
        (pss_one (ps_ret (pe_made1 T.x_NoPaper C_init (hr.mono (by decide)) (passes_call (takes_of rfl rfl rfl rfl) fun _ _ _ _ z => z.elim) (by rfl) (pv 1)))))))))))))
        pss_nil)
      (pss_cons (ps_if (pt_cmpR op_eq (pv 0) pe_int (nomark _))
        (pss_one (ps_ret (pe_made0 T.x_Clashes I_Clashes (hr.mono (by decide)) (passes_call (takes_of rfl rfl rfl rfl) fun _ _ _ _ z => z.elim) (by rfl))))
        pss_nil)
      (pss_cons (ps_if (pt_cmpR op_eq (pv 0) pe_int (nomark _))
        (pss_one (ps_ret (pe_made0 T.x_Finished I_Finished (hr.mono (by decide)) (passes_call (takes_of rfl rfl rfl rfl) fun _ _ _ _ z => z.elim) (by rfl))))
        pss_nil)
      (pss_cons (ps_if (pt_cmpR op_eq (pv 0) pe_int (nomark _))
        (pss_one (ps_ret (pe_made0 T.x_NothingDone I_NothingDone (hr.mono (by decide)) (passes_call (takes_of rfl rfl rfl rfl) fun _ _ _ _ z => z.elim) (by rfl))))
        pss_nil)
      (pss_cons (ps_if (pt_cmpR op_eq (pv 0) pe_int (nomark _))
        (pss_one (ps_ret (pe_made0 T.x_TooLong I_TooLong (hr.mono (by decide)) (passes_call (takes_of rfl rfl rfl rfl) fun _ _ _ _ z => z.elim) (by rfl))))
        pss_nil)
      (pss_one (ps_ret (pe_made0 T.x_TooMany I_TooMany (hr.mono (by decide)) (passes_call (takes_of rfl rfl rfl rfl) fun _ _ _ _ z => z.elim) (by rfl)))))))))), ?_⟩)
  · obtain ⟨k, v, rfl, _⟩ := h
    rfl
  obtain ⟨k, v, rfl, hk, q⟩ := h
  have ne : ∀ j : Nat, ¬ k = j → decide (V.int (k : Int) = V.int (j : Int)) = false := fun j h => decide_eq_false fun z => h (by have y := V.int.inj z; omega)
  have eq : ∀ j : Nat, k = j → decide (V.int (k : Int) = V.int (j : Int)) = true := fun j h => decide_eq_true (by rw [h])
  have lt : ∀ j : Nat, ¬ k < j → decide ((k : Int) < (j : Int)) = false := fun j h => decide_eq_false (by omega)
  have le : ∀ j : Nat, k < j → decide ((k : Int) < (j : Int)) = true := fun j h => decide_eq_true (by omega)
  refine ⟨_, rfl, _, _, rfl, rfl, _, rfl, ?_⟩
  by_cases d10 : k < 10
  · rw [show decide ((k : Int) < 10) = true from le 10 d10]
    refine iteT ?_
    refine ⟨_, rfl, rfl, _, rfl, ?_⟩
    by_cases c0 : k = 0
    · rw [show decide (V.int (k : Int) = V.int 0) = true from eq 0 c0]
      subst c0
      exact iteT ⟨_, rfl, T.e_BadBook, fun a H2 s2 e2 => q a H2 s2 e2⟩
    rw [show decide (V.int (k : Int) = V.int 0) = false from ne 0 c0]
    refine iteF ?_
    refine ⟨_, rfl, rfl, _, rfl, ?_⟩
    by_cases c1 : k = 1
    · rw [show decide (V.int (k : Int) = V.int 1) = true from eq 1 c1]
      subst c1
      exact iteT ⟨_, rfl, T.e_BadClaim, fun a H2 s2 e2 => q a H2 s2 e2⟩
    rw [show decide (V.int (k : Int) = V.int 1) = false from ne 1 c1]
    refine iteF ?_
    refine ⟨_, rfl, rfl, _, rfl, ?_⟩
    by_cases c2 : k = 2
    · rw [show decide (V.int (k : Int) = V.int 2) = true from eq 2 c2]
      subst c2
      exact iteT ⟨_, rfl, T.e_BadClaims, fun a H2 s2 e2 => q a H2 s2 e2⟩
    rw [show decide (V.int (k : Int) = V.int 2) = false from ne 2 c2]
    refine iteF ?_
    refine ⟨_, rfl, rfl, _, rfl, ?_⟩
    by_cases c3 : k = 3
    · rw [show decide (V.int (k : Int) = V.int 3) = true from eq 3 c3]
      subst c3
      exact iteT ⟨_, rfl, T.e_BadCount, fun a H2 s2 e2 => q a H2 s2 e2⟩
    rw [show decide (V.int (k : Int) = V.int 3) = false from ne 3 c3]
    refine iteF ?_
    refine ⟨_, rfl, rfl, _, rfl, ?_⟩
    by_cases c4 : k = 4
    · rw [show decide (V.int (k : Int) = V.int 4) = true from eq 4 c4]
      subst c4
      exact iteT ⟨_, rfl, T.e_BadFlag, fun a H2 s2 e2 => q a H2 s2 e2⟩
    rw [show decide (V.int (k : Int) = V.int 4) = false from ne 4 c4]
    refine iteF ?_
    refine ⟨_, rfl, rfl, _, rfl, ?_⟩
    by_cases c5 : k = 5
    · rw [show decide (V.int (k : Int) = V.int 5) = true from eq 5 c5]
      subst c5
      exact iteT ⟨_, rfl, T.e_BadForm, fun a H2 s2 e2 => q a H2 s2 e2⟩
    rw [show decide (V.int (k : Int) = V.int 5) = false from ne 5 c5]
    refine iteF ?_
    refine ⟨_, rfl, rfl, _, rfl, ?_⟩
    by_cases c6 : k = 6
    · rw [show decide (V.int (k : Int) = V.int 6) = true from eq 6 c6]
      subst c6
      exact iteT ⟨_, rfl, T.e_BadKept, fun a H2 s2 e2 => q a H2 s2 e2⟩
    rw [show decide (V.int (k : Int) = V.int 6) = false from ne 6 c6]
    refine iteF ?_
    refine ⟨_, rfl, rfl, _, rfl, ?_⟩
    by_cases c7 : k = 7
    · rw [show decide (V.int (k : Int) = V.int 7) = true from eq 7 c7]
      subst c7
      exact iteT ⟨_, rfl, T.e_BadName, fun a H2 s2 e2 => q a H2 s2 e2⟩
    rw [show decide (V.int (k : Int) = V.int 7) = false from ne 7 c7]
    refine iteF ?_
    refine ⟨_, rfl, rfl, _, rfl, ?_⟩
    by_cases c8 : k = 8
    · rw [show decide (V.int (k : Int) = V.int 8) = true from eq 8 c8]
      subst c8
      exact iteT ⟨_, rfl, T.e_BadOthers, fun a H2 s2 e2 => q a H2 s2 e2⟩
    rw [show decide (V.int (k : Int) = V.int 8) = false from ne 8 c8]
    refine iteF ?_
    obtain rfl : k = 9 := by omega
    exact ⟨_, rfl, T.e_BadParts, fun a H2 s2 e2 => q a H2 s2 e2⟩
  rw [show decide ((k : Int) < 10) = false from lt 10 d10]
  refine iteF ⟨_, rfl, _, _, rfl, rfl, _, rfl, ?_⟩
  by_cases d20 : k < 20
  · rw [show decide ((k : Int) < 20) = true from le 20 d20]
    refine iteT ?_
    refine ⟨_, rfl, rfl, _, rfl, ?_⟩
    by_cases c10 : k = 10
    · rw [show decide (V.int (k : Int) = V.int 10) = true from eq 10 c10]
      subst c10
      exact iteT ⟨_, rfl, T.e_BadPlace, fun a H2 s2 e2 => q a H2 s2 e2⟩
    rw [show decide (V.int (k : Int) = V.int 10) = false from ne 10 c10]
    refine iteF ?_
    refine ⟨_, rfl, rfl, _, rfl, ?_⟩
    by_cases c11 : k = 11
    · rw [show decide (V.int (k : Int) = V.int 11) = true from eq 11 c11]
      subst c11
      exact iteT ⟨_, rfl, T.e_BadPlanned, fun a H2 s2 e2 => q a H2 s2 e2⟩
    rw [show decide (V.int (k : Int) = V.int 11) = false from ne 11 c11]
    refine iteF ?_
    refine ⟨_, rfl, rfl, _, rfl, ?_⟩
    by_cases c12 : k = 12
    · rw [show decide (V.int (k : Int) = V.int 12) = true from eq 12 c12]
      subst c12
      exact iteT ⟨_, rfl, T.e_BadRow, fun a H2 s2 e2 => q a H2 s2 e2⟩
    rw [show decide (V.int (k : Int) = V.int 12) = false from ne 12 c12]
    refine iteF ?_
    refine ⟨_, rfl, rfl, _, rfl, ?_⟩
    by_cases c13 : k = 13
    · rw [show decide (V.int (k : Int) = V.int 13) = true from eq 13 c13]
      subst c13
      exact iteT ⟨_, rfl, T.e_BadRule, fun a H2 s2 e2 => q a H2 s2 e2⟩
    rw [show decide (V.int (k : Int) = V.int 13) = false from ne 13 c13]
    refine iteF ?_
    refine ⟨_, rfl, rfl, _, rfl, ?_⟩
    by_cases c14 : k = 14
    · rw [show decide (V.int (k : Int) = V.int 14) = true from eq 14 c14]
      subst c14
      exact iteT ⟨_, rfl, T.e_BadSign, fun a H2 s2 e2 => q a H2 s2 e2⟩
    rw [show decide (V.int (k : Int) = V.int 14) = false from ne 14 c14]
    refine iteF ?_
    refine ⟨_, rfl, rfl, _, rfl, ?_⟩
    by_cases c15 : k = 15
    · rw [show decide (V.int (k : Int) = V.int 15) = true from eq 15 c15]
      subst c15
      exact iteT ⟨_, rfl, T.e_BadText, fun a H2 s2 e2 => q a H2 s2 e2⟩
    rw [show decide (V.int (k : Int) = V.int 15) = false from ne 15 c15]
    refine iteF ?_
    refine ⟨_, rfl, rfl, _, rfl, ?_⟩
    by_cases c16 : k = 16
    · rw [show decide (V.int (k : Int) = V.int 16) = true from eq 16 c16]
      subst c16
      exact iteT ⟨_, rfl, T.e_BadThing, fun a H2 s2 e2 => q a H2 s2 e2⟩
    rw [show decide (V.int (k : Int) = V.int 16) = false from ne 16 c16]
    refine iteF ?_
    refine ⟨_, rfl, rfl, _, rfl, ?_⟩
    by_cases c17 : k = 17
    · rw [show decide (V.int (k : Int) = V.int 17) = true from eq 17 c17]
      subst c17
      exact iteT ⟨_, rfl, T.e_BadWord, fun a H2 s2 e2 => q a H2 s2 e2⟩
    rw [show decide (V.int (k : Int) = V.int 17) = false from ne 17 c17]
    refine iteF ?_
    refine ⟨_, rfl, rfl, _, rfl, ?_⟩
    by_cases c18 : k = 18
    · rw [show decide (V.int (k : Int) = V.int 18) = true from eq 18 c18]
      subst c18
      exact iteT ⟨_, rfl, T.e_BadWorld, fun a H2 s2 e2 => q a H2 s2 e2⟩
    rw [show decide (V.int (k : Int) = V.int 18) = false from ne 18 c18]
    refine iteF ?_
    obtain rfl : k = 19 := by omega
    exact ⟨_, rfl, T.e_NoPaper, fun a H2 s2 e2 => q a H2 s2 e2⟩
  rw [show decide ((k : Int) < 20) = false from lt 20 d20]
  refine iteF ?_
  refine ⟨_, rfl, rfl, _, rfl, ?_⟩
  by_cases c20 : k = 20
  · rw [show decide (V.int (k : Int) = V.int 20) = true from eq 20 c20]
    subst c20
    exact iteT ⟨T.e_Clashes, fun a H2 s2 e2 => q a H2 s2 e2⟩
  rw [show decide (V.int (k : Int) = V.int 20) = false from ne 20 c20]
  refine iteF ?_
  refine ⟨_, rfl, rfl, _, rfl, ?_⟩
  by_cases c21 : k = 21
  · rw [show decide (V.int (k : Int) = V.int 21) = true from eq 21 c21]
    subst c21
    exact iteT ⟨T.e_Finished, fun a H2 s2 e2 => q a H2 s2 e2⟩
  rw [show decide (V.int (k : Int) = V.int 21) = false from ne 21 c21]
  refine iteF ?_
  refine ⟨_, rfl, rfl, _, rfl, ?_⟩
  by_cases c22 : k = 22
  · rw [show decide (V.int (k : Int) = V.int 22) = true from eq 22 c22]
    subst c22
    exact iteT ⟨T.e_NothingDone, fun a H2 s2 e2 => q a H2 s2 e2⟩
  rw [show decide (V.int (k : Int) = V.int 22) = false from ne 22 c22]
  refine iteF ?_
  refine ⟨_, rfl, rfl, _, rfl, ?_⟩
  by_cases c23 : k = 23
  · rw [show decide (V.int (k : Int) = V.int 23) = true from eq 23 c23]
    subst c23
    exact iteT ⟨T.e_TooLong, fun a H2 s2 e2 => q a H2 s2 e2⟩
  rw [show decide (V.int (k : Int) = V.int 23) = false from ne 23 c23]
  refine iteF ?_
  obtain rfl : k = 24 := by omega
  exact ⟨T.e_TooMany, fun a H2 s2 e2 => q a H2 s2 e2⟩

theorem ok_law_kinds (T : Tx K mg fI c_MadeError c_BadName c_BadRow c_BadThing c_BadForm c_BadSign c_BadRule c_BadText c_BadParts c_BadOthers c_BadCount c_BadBook c_BadFlag c_BadPlace c_BadClaim c_BadWorld c_BadKept c_BadWord c_NoPaper c_BadPlanned c_BadClaims c_Clashes c_TooMany c_TooLong c_Finished c_NothingDone i_Clashes i_Finished i_NothingDone i_TooLong i_TooMany) (D : Dx K mg "_law_kinds" s_law_kinds ["error"]) : Pr P w K mg base 1 "_law_kinds" ["error"] (spKinds K [c_BadBook, c_BadClaim, c_BadClaims, c_BadCount, c_BadFlag, c_BadForm, c_BadKept, c_BadName, c_BadOthers, c_BadParts, c_BadPlace, c_BadPlanned, c_BadRow, c_BadRule, c_BadSign, c_BadText, c_BadThing, c_BadWord, c_BadWorld, c_NoPaper, c_Clashes, c_Finished, c_NothingDone, c_TooLong, c_TooMany]) := by
  refine D.pr sc_law_kinds (fun vs H Q E h => ?_) (fun f cdv A outer s H vs Q E hr h => ⟨_,
      (pss_cons (ps_set (i := 1) sc_law_kinds.nd rfl (Or.inl rfl) (pe_lst pa_nil))
      (pss_cons (ps_expr (pe_bm PySem.F.plainAttrs_list PySem.F.slot_list_append PySem.F.type_list_append mt_append (pv 1) (pa_cons (pe_callB call_isV (by rfl) T.n.n_isinstance (by decide +kernel) (pa_cons (pv 0) (pa_cons (pe_glob (v := .ref c_BadBook) rfl T.x_BadBook.g rfl) pa_nil))) pa_nil)))
      (pss_cons (ps_expr (pe_bm PySem.F.plainAttrs_list PySem.F.slot_list_append PySem.F.type_list_append mt_append (pv 1) (pa_cons (pe_callB call_isV (by rfl) T.n.n_isinstance (by decide +kernel) (pa_cons (pv 0) (pa_cons (pe_glob (v := .ref c_BadClaim) rfl T.x_BadClaim.g rfl) pa_nil))) pa_nil)))
      (pss_cons (ps_expr (pe_bm PySem.F.plainAttrs_list PySem.F.slot_list_append PySem.F.type_list_append mt_append (pv 1) (pa_cons (pe_callB call_isV (by rfl) T.n.n_isinstance (by decide +kernel) (pa_cons (pv 0) (pa_cons (pe_glob (v := .ref c_BadClaims) rfl T.x_BadClaims.g rfl) pa_nil))) pa_nil)))
      (pss_cons (ps_expr (pe_bm PySem.F.plainAttrs_list PySem.F.slot_list_append PySem.F.type_list_append mt_append (pv 1) (pa_cons (pe_callB call_isV (by rfl) T.n.n_isinstance (by decide +kernel) (pa_cons (pv 0) (pa_cons (pe_glob (v := .ref c_BadCount) rfl T.x_BadCount.g rfl) pa_nil))) pa_nil)))
      (pss_cons (ps_expr (pe_bm PySem.F.plainAttrs_list PySem.F.slot_list_append PySem.F.type_list_append mt_append (pv 1) (pa_cons (pe_callB call_isV (by rfl) T.n.n_isinstance (by decide +kernel) (pa_cons (pv 0) (pa_cons (pe_glob (v := .ref c_BadFlag) rfl T.x_BadFlag.g rfl) pa_nil))) pa_nil)))
      (pss_cons (ps_expr (pe_bm PySem.F.plainAttrs_list PySem.F.slot_list_append PySem.F.type_list_append mt_append (pv 1) (pa_cons (pe_callB call_isV (by rfl) T.n.n_isinstance (by decide +kernel) (pa_cons (pv 0) (pa_cons (pe_glob (v := .ref c_BadForm) rfl T.x_BadForm.g rfl) pa_nil))) pa_nil)))
      (pss_cons (ps_expr (pe_bm PySem.F.plainAttrs_list PySem.F.slot_list_append PySem.F.type_list_append mt_append (pv 1) (pa_cons (pe_callB call_isV (by rfl) T.n.n_isinstance (by decide +kernel) (pa_cons (pv 0) (pa_cons (pe_glob (v := .ref c_BadKept) rfl T.x_BadKept.g rfl) pa_nil))) pa_nil)))
      (pss_cons (ps_expr (pe_bm PySem.F.plainAttrs_list PySem.F.slot_list_append PySem.F.type_list_append mt_append (pv 1) (pa_cons (pe_callB call_isV (by rfl) T.n.n_isinstance (by decide +kernel) (pa_cons (pv 0) (pa_cons (pe_glob (v := .ref c_BadName) rfl T.x_BadName.g rfl) pa_nil))) pa_nil)))
      (pss_cons (ps_expr (pe_bm PySem.F.plainAttrs_list PySem.F.slot_list_append PySem.F.type_list_append mt_append (pv 1) (pa_cons (pe_callB call_isV (by rfl) T.n.n_isinstance (by decide +kernel) (pa_cons (pv 0) (pa_cons (pe_glob (v := .ref c_BadOthers) rfl T.x_BadOthers.g rfl) pa_nil))) pa_nil)))
      (pss_cons (ps_expr (pe_bm PySem.F.plainAttrs_list PySem.F.slot_list_append PySem.F.type_list_append mt_append (pv 1) (pa_cons (pe_callB call_isV (by rfl) T.n.n_isinstance (by decide +kernel) (pa_cons (pv 0) (pa_cons (pe_glob (v := .ref c_BadParts) rfl T.x_BadParts.g rfl) pa_nil))) pa_nil)))
      (pss_cons (ps_expr (pe_bm PySem.F.plainAttrs_list PySem.F.slot_list_append PySem.F.type_list_append mt_append (pv 1) (pa_cons (pe_callB call_isV (by rfl) T.n.n_isinstance (by decide +kernel) (pa_cons (pv 0) (pa_cons (pe_glob (v := .ref c_BadPlace) rfl T.x_BadPlace.g rfl) pa_nil))) pa_nil)))
      (pss_cons (ps_expr (pe_bm PySem.F.plainAttrs_list PySem.F.slot_list_append PySem.F.type_list_append mt_append (pv 1) (pa_cons (pe_callB call_isV (by rfl) T.n.n_isinstance (by decide +kernel) (pa_cons (pv 0) (pa_cons (pe_glob (v := .ref c_BadPlanned) rfl T.x_BadPlanned.g rfl) pa_nil))) pa_nil)))
      (pss_cons (ps_expr (pe_bm PySem.F.plainAttrs_list PySem.F.slot_list_append PySem.F.type_list_append mt_append (pv 1) (pa_cons (pe_callB call_isV (by rfl) T.n.n_isinstance (by decide +kernel) (pa_cons (pv 0) (pa_cons (pe_glob (v := .ref c_BadRow) rfl T.x_BadRow.g rfl) pa_nil))) pa_nil)))
      (pss_cons (ps_expr (pe_bm PySem.F.plainAttrs_list PySem.F.slot_list_append PySem.F.type_list_append mt_append (pv 1) (pa_cons (pe_callB call_isV (by rfl) T.n.n_isinstance (by decide +kernel) (pa_cons (pv 0) (pa_cons (pe_glob (v := .ref c_BadRule) rfl T.x_BadRule.g rfl) pa_nil))) pa_nil)))
      (pss_cons (ps_expr (pe_bm PySem.F.plainAttrs_list PySem.F.slot_list_append PySem.F.type_list_append mt_append (pv 1) (pa_cons (pe_callB call_isV (by rfl) T.n.n_isinstance (by decide +kernel) (pa_cons (pv 0) (pa_cons (pe_glob (v := .ref c_BadSign) rfl T.x_BadSign.g rfl) pa_nil))) pa_nil)))
      (pss_cons (ps_expr (pe_bm PySem.F.plainAttrs_list PySem.F.slot_list_append PySem.F.type_list_append mt_append (pv 1) (pa_cons (pe_callB call_isV (by rfl) T.n.n_isinstance (by decide +kernel) (pa_cons (pv 0) (pa_cons (pe_glob (v := .ref c_BadText) rfl T.x_BadText.g rfl) pa_nil))) pa_nil)))
      (pss_cons (ps_expr (pe_bm PySem.F.plainAttrs_list PySem.F.slot_list_append PySem.F.type_list_append mt_append (pv 1) (pa_cons (pe_callB call_isV (by rfl) T.n.n_isinstance (by decide +kernel) (pa_cons (pv 0) (pa_cons (pe_glob (v := .ref c_BadThing) rfl T.x_BadThing.g rfl) pa_nil))) pa_nil)))
      (pss_cons (ps_expr (pe_bm PySem.F.plainAttrs_list PySem.F.slot_list_append PySem.F.type_list_append mt_append (pv 1) (pa_cons (pe_callB call_isV (by rfl) T.n.n_isinstance (by decide +kernel) (pa_cons (pv 0) (pa_cons (pe_glob (v := .ref c_BadWord) rfl T.x_BadWord.g rfl) pa_nil))) pa_nil)))
      (pss_cons (ps_expr (pe_bm PySem.F.plainAttrs_list PySem.F.slot_list_append PySem.F.type_list_append mt_append (pv 1) (pa_cons (pe_callB call_isV (by rfl) T.n.n_isinstance (by decide +kernel) (pa_cons (pv 0) (pa_cons (pe_glob (v := .ref c_BadWorld) rfl T.x_BadWorld.g rfl) pa_nil))) pa_nil)))
      (pss_cons (ps_expr (pe_bm PySem.F.plainAttrs_list PySem.F.slot_list_append PySem.F.type_list_append mt_append (pv 1) (pa_cons (pe_callB call_isV (by rfl) T.n.n_isinstance (by decide +kernel) (pa_cons (pv 0) (pa_cons (pe_glob (v := .ref c_NoPaper) rfl T.x_NoPaper.g rfl) pa_nil))) pa_nil)))
      (pss_cons (ps_expr (pe_bm PySem.F.plainAttrs_list PySem.F.slot_list_append PySem.F.type_list_append mt_append (pv 1) (pa_cons (pe_callB call_isV (by rfl) T.n.n_isinstance (by decide +kernel) (pa_cons (pv 0) (pa_cons (pe_glob (v := .ref c_Clashes) rfl T.x_Clashes.g rfl) pa_nil))) pa_nil)))
      (pss_cons (ps_expr (pe_bm PySem.F.plainAttrs_list PySem.F.slot_list_append PySem.F.type_list_append mt_append (pv 1) (pa_cons (pe_callB call_isV (by rfl) T.n.n_isinstance (by decide +kernel) (pa_cons (pv 0) (pa_cons (pe_glob (v := .ref c_Finished) rfl T.x_Finished.g rfl) pa_nil))) pa_nil)))
      (pss_cons (ps_expr (pe_bm PySem.F.plainAttrs_list PySem.F.slot_list_append PySem.F.type_list_append mt_append (pv 1) (pa_cons (pe_callB call_isV (by rfl) T.n.n_isinstance (by decide +kernel) (pa_cons (pv 0) (pa_cons (pe_glob (v := .ref c_NothingDone) rfl T.x_NothingDone.g rfl) pa_nil))) pa_nil)))
      (pss_cons (ps_expr (pe_bm PySem.F.plainAttrs_list PySem.F.slot_list_append PySem.F.type_list_append mt_append (pv 1) (pa_cons (pe_callB call_isV (by rfl) T.n.n_isinstance (by decide +kernel) (pa_cons (pv 0) (pa_cons (pe_glob (v := .ref c_TooLong) rfl T.x_TooLong.g rfl) pa_nil))) pa_nil)))
      (pss_cons (ps_expr (pe_bm PySem.F.plainAttrs_list PySem.F.slot_list_append PySem.F.type_list_append mt_append (pv 1) (pa_cons (pe_callB call_isV (by rfl) T.n.n_isinstance (by decide +kernel) (pa_cons (pv 0) (pa_cons (pe_glob (v := .ref c_TooMany) rfl T.x_TooMany.g rfl) pa_nil))) pa_nil)))
      (pss_one (ps_ret (pv 1))))))))))))))))))))))))))))), ?_⟩)
  · obtain ⟨a, k, v, rfl, _⟩ := h
    rfl
  obtain ⟨a, k, v, rfl, hk, he, q⟩ := h
  refine ⟨Nat.zero_le _, fun p np => ?_⟩
  have s0 := same_new (o := .lst []) np
  have he0 := he.keep s0
  have hp0 : upd H p (.lst []) p = some (.lst []) := upd_same
  generalize upd H p (.lst []) = H0 at s0 he0 hp0 ⊢
  refine ⟨_, rfl, .inl ⟨rfl, _, SqL.of hp0⟩, _, rfl, a, _, v, _, _, _, rfl, he0, .own _, T.kit k 0 hk (by decide), p, _, _, rfl, rfl, hp0, show 0 < sizeLine by decide, ?_⟩
  have s1 := same_mut (o := .lst [V.bl (decide (k = 0))]) s0 np
  have he1 := he.keep s1
  have hp1 : upd H0 p (.lst [V.bl (decide (k = 0))]) p = some (.lst [V.bl (decide (k = 0))]) := upd_same
  refine (show ∀ R : Hp → Prop, R (upd H0 p (.lst [V.bl (decide (k = 0))])) → R _ from fun R r => r) _ ?_
  generalize upd H0 p (.lst [V.bl (decide (k = 0))]) = H1 at s1 he1 hp1 ⊢
  clear s0 he0 hp0
  refine ⟨_, rfl, .inl ⟨rfl, _, SqL.of hp1⟩, _, rfl, a, _, v, _, _, _, rfl, he1, .own _, T.kit k 1 hk (by decide), p, _, _, rfl, rfl, hp1, show 1 < sizeLine by decide, ?_⟩
  have s2 := same_mut (o := .lst [V.bl (decide (k = 0)), V.bl (decide (k = 1))]) s1 np
  have he2 := he.keep s2
  have hp2 : upd H1 p (.lst [V.bl (decide (k = 0)), V.bl (decide (k = 1))]) p = some (.lst [V.bl (decide (k = 0)), V.bl (decide (k = 1))]) := upd_same
  refine (show ∀ R : Hp → Prop, R (upd H1 p (.lst [V.bl (decide (k = 0)), V.bl (decide (k = 1))])) → R _ from fun R r => r) _ ?_
  generalize upd H1 p (.lst [V.bl (decide (k = 0)), V.bl (decide (k = 1))]) = H2 at s2 he2 hp2 ⊢
  clear s1 he1 hp1
  refine ⟨_, rfl, .inl ⟨rfl, _, SqL.of hp2⟩, _, rfl, a, _, v, _, _, _, rfl, he2, .own _, T.kit k 2 hk (by decide), p, _, _, rfl, rfl, hp2, show 2 < sizeLine by decide, ?_⟩
  have s3 := same_mut (o := .lst [V.bl (decide (k = 0)), V.bl (decide (k = 1)), V.bl (decide (k = 2))]) s2 np
  have he3 := he.keep s3
  have hp3 : upd H2 p (.lst [V.bl (decide (k = 0)), V.bl (decide (k = 1)), V.bl (decide (k = 2))]) p = some (.lst [V.bl (decide (k = 0)), V.bl (decide (k = 1)), V.bl (decide (k = 2))]) := upd_same
  refine (show ∀ R : Hp → Prop, R (upd H2 p (.lst [V.bl (decide (k = 0)), V.bl (decide (k = 1)), V.bl (decide (k = 2))])) → R _ from fun R r => r) _ ?_
  generalize upd H2 p (.lst [V.bl (decide (k = 0)), V.bl (decide (k = 1)), V.bl (decide (k = 2))]) = H3 at s3 he3 hp3 ⊢
  clear s2 he2 hp2
  refine ⟨_, rfl, .inl ⟨rfl, _, SqL.of hp3⟩, _, rfl, a, _, v, _, _, _, rfl, he3, .own _, T.kit k 3 hk (by decide), p, _, _, rfl, rfl, hp3, show 3 < sizeLine by decide, ?_⟩
  have s4 := same_mut (o := .lst [V.bl (decide (k = 0)), V.bl (decide (k = 1)), V.bl (decide (k = 2)), V.bl (decide (k = 3))]) s3 np
  have he4 := he.keep s4
  have hp4 : upd H3 p (.lst [V.bl (decide (k = 0)), V.bl (decide (k = 1)), V.bl (decide (k = 2)), V.bl (decide (k = 3))]) p = some (.lst [V.bl (decide (k = 0)), V.bl (decide (k = 1)), V.bl (decide (k = 2)), V.bl (decide (k = 3))]) := upd_same
  refine (show ∀ R : Hp → Prop, R (upd H3 p (.lst [V.bl (decide (k = 0)), V.bl (decide (k = 1)), V.bl (decide (k = 2)), V.bl (decide (k = 3))])) → R _ from fun R r => r) _ ?_
  generalize upd H3 p (.lst [V.bl (decide (k = 0)), V.bl (decide (k = 1)), V.bl (decide (k = 2)), V.bl (decide (k = 3))]) = H4 at s4 he4 hp4 ⊢
  clear s3 he3 hp3
  refine ⟨_, rfl, .inl ⟨rfl, _, SqL.of hp4⟩, _, rfl, a, _, v, _, _, _, rfl, he4, .own _, T.kit k 4 hk (by decide), p, _, _, rfl, rfl, hp4, show 4 < sizeLine by decide, ?_⟩
  have s5 := same_mut (o := .lst [V.bl (decide (k = 0)), V.bl (decide (k = 1)), V.bl (decide (k = 2)), V.bl (decide (k = 3)), V.bl (decide (k = 4))]) s4 np
  have he5 := he.keep s5
  have hp5 : upd H4 p (.lst [V.bl (decide (k = 0)), V.bl (decide (k = 1)), V.bl (decide (k = 2)), V.bl (decide (k = 3)), V.bl (decide (k = 4))]) p = some (.lst [V.bl (decide (k = 0)), V.bl (decide (k = 1)), V.bl (decide (k = 2)), V.bl (decide (k = 3)), V.bl (decide (k = 4))]) := upd_same
  refine (show ∀ R : Hp → Prop, R (upd H4 p (.lst [V.bl (decide (k = 0)), V.bl (decide (k = 1)), V.bl (decide (k = 2)), V.bl (decide (k = 3)), V.bl (decide (k = 4))])) → R _ from fun R r => r) _ ?_
  generalize upd H4 p (.lst [V.bl (decide (k = 0)), V.bl (decide (k = 1)), V.bl (decide (k = 2)), V.bl (decide (k = 3)), V.bl (decide (k = 4))]) = H5 at s5 he5 hp5 ⊢
  clear s4 he4 hp4
  refine ⟨_, rfl, .inl ⟨rfl, _, SqL.of hp5⟩, _, rfl, a, _, v, _, _, _, rfl, he5, .own _, T.kit k 5 hk (by decide), p, _, _, rfl, rfl, hp5, show 5 < sizeLine by decide, ?_⟩
  have s6 := same_mut (o := .lst [V.bl (decide (k = 0)), V.bl (decide (k = 1)), V.bl (decide (k = 2)), V.bl (decide (k = 3)), V.bl (decide (k = 4)), V.bl (decide (k = 5))]) s5 np
  have he6 := he.keep s6
  have hp6 : upd H5 p (.lst [V.bl (decide (k = 0)), V.bl (decide (k = 1)), V.bl (decide (k = 2)), V.bl (decide (k = 3)), V.bl (decide (k = 4)), V.bl (decide (k = 5))]) p = some (.lst [V.bl (decide (k = 0)), V.bl (decide (k = 1)), V.bl (decide (k = 2)), V.bl (decide (k = 3)), V.bl (decide (k = 4)), V.bl (decide (k = 5))]) := upd_same
  refine (show ∀ R : Hp → Prop, R (upd H5 p (.lst [V.bl (decide (k = 0)), V.bl (decide (k = 1)), V.bl (decide (k = 2)), V.bl (decide (k = 3)), V.bl (decide (k = 4)), V.bl (decide (k = 5))])) → R _ from fun R r => r) _ ?_
  generalize upd H5 p (.lst [V.bl (decide (k = 0)), V.bl (decide (k = 1)), V.bl (decide (k = 2)), V.bl (decide (k = 3)), V.bl (decide (k = 4)), V.bl (decide (k = 5))]) = H6 at s6 he6 hp6 ⊢
  clear s5 he5 hp5
  refine ⟨_, rfl, .inl ⟨rfl, _, SqL.of hp6⟩, _, rfl, a, _, v, _, _, _, rfl, he6, .own _, T.kit k 6 hk (by decide), p, _, _, rfl, rfl, hp6, show 6 < sizeLine by decide, ?_⟩
  have s7 := same_mut (o := .lst [V.bl (decide (k = 0)), V.bl (decide (k = 1)), V.bl (decide (k = 2)), V.bl (decide (k = 3)), V.bl (decide (k = 4)), V.bl (decide (k = 5)), V.bl (decide (k = 6))]) s6 np
  have he7 := he.keep s7
  have hp7 : upd H6 p (.lst [V.bl (decide (k = 0)), V.bl (decide (k = 1)), V.bl (decide (k = 2)), V.bl (decide (k = 3)), V.bl (decide (k = 4)), V.bl (decide (k = 5)), V.bl (decide (k = 6))]) p = some (.lst [V.bl (decide (k = 0)), V.bl (decide (k = 1)), V.bl (decide (k = 2)), V.bl (decide (k = 3)), V.bl (decide (k = 4)), V.bl (decide (k = 5)), V.bl (decide (k = 6))]) := upd_same
  refine (show ∀ R : Hp → Prop, R (upd H6 p (.lst [V.bl (decide (k = 0)), V.bl (decide (k = 1)), V.bl (decide (k = 2)), V.bl (decide (k = 3)), V.bl (decide (k = 4)), V.bl (decide (k = 5)), V.bl (decide (k = 6))])) → R _ from fun R r => r) _ ?_
  generalize upd H6 p (.lst [V.bl (decide (k = 0)), V.bl (decide (k = 1)), V.bl (decide (k = 2)), V.bl (decide (k = 3)), V.bl (decide (k = 4)), V.bl (decide (k = 5)), V.bl (decide (k = 6))]) = H7 at s7 he7 hp7 ⊢
  clear s6 he6 hp6
  refine ⟨_, rfl, .inl ⟨rfl, _, SqL.of hp7⟩, _, rfl, a, _, v, _, _, _, rfl, he7, .own _, T.kit k 7 hk (by decide), p, _, _, rfl, rfl, hp7, show 7 < sizeLine by decide, ?_⟩
  have s8 := same_mut (o := .lst [V.bl (decide (k = 0)), V.bl (decide (k = 1)), V.bl (decide (k = 2)), V.bl (decide (k = 3)), V.bl (decide (k = 4)), V.bl (decide (k = 5)), V.bl (decide (k = 6)), V.bl (decide (k = 7))]) s7 np
  have he8 := he.keep s8
  have hp8 : upd H7 p (.lst [V.bl (decide (k = 0)), V.bl (decide (k = 1)), V.bl (decide (k = 2)), V.bl (decide (k = 3)), V.bl (decide (k = 4)), V.bl (decide (k = 5)), V.bl (decide (k = 6)), V.bl (decide (k = 7))]) p = some (.lst [V.bl (decide (k = 0)), V.bl (decide (k = 1)), V.bl (decide (k = 2)), V.bl (decide (k = 3)), V.bl (decide (k = 4)), V.bl (decide (k = 5)), V.bl (decide (k = 6)), V.bl (decide (k = 7))]) := upd_same
  refine (show ∀ R : Hp → Prop, R (upd H7 p (.lst [V.bl (decide (k = 0)), V.bl (decide (k = 1)), V.bl (decide (k = 2)), V.bl (decide (k = 3)), V.bl (decide (k = 4)), V.bl (decide (k = 5)), V.bl (decide (k = 6)), V.bl (decide (k = 7))])) → R _ from fun R r => r) _ ?_
  generalize upd H7 p (.lst [V.bl (decide (k = 0)), V.bl (decide (k = 1)), V.bl (decide (k = 2)), V.bl (decide (k = 3)), V.bl (decide (k = 4)), V.bl (decide (k = 5)), V.bl (decide (k = 6)), V.bl (decide (k = 7))]) = H8 at s8 he8 hp8 ⊢
  clear s7 he7 hp7
  refine ⟨_, rfl, .inl ⟨rfl, _, SqL.of hp8⟩, _, rfl, a, _, v, _, _, _, rfl, he8, .own _, T.kit k 8 hk (by decide), p, _, _, rfl, rfl, hp8, show 8 < sizeLine by decide, ?_⟩
  have s9 := same_mut (o := .lst [V.bl (decide (k = 0)), V.bl (decide (k = 1)), V.bl (decide (k = 2)), V.bl (decide (k = 3)), V.bl (decide (k = 4)), V.bl (decide (k = 5)), V.bl (decide (k = 6)), V.bl (decide (k = 7)), V.bl (decide (k = 8))]) s8 np
  have he9 := he.keep s9
  have hp9 : upd H8 p (.lst [V.bl (decide (k = 0)), V.bl (decide (k = 1)), V.bl (decide (k = 2)), V.bl (decide (k = 3)), V.bl (decide (k = 4)), V.bl (decide (k = 5)), V.bl (decide (k = 6)), V.bl (decide (k = 7)), V.bl (decide (k = 8))]) p = some (.lst [V.bl (decide (k = 0)), V.bl (decide (k = 1)), V.bl (decide (k = 2)), V.bl (decide (k = 3)), V.bl (decide (k = 4)), V.bl (decide (k = 5)), V.bl (decide (k = 6)), V.bl (decide (k = 7)), V.bl (decide (k = 8))]) := upd_same
  refine (show ∀ R : Hp → Prop, R (upd H8 p (.lst [V.bl (decide (k = 0)), V.bl (decide (k = 1)), V.bl (decide (k = 2)), V.bl (decide (k = 3)), V.bl (decide (k = 4)), V.bl (decide (k = 5)), V.bl (decide (k = 6)), V.bl (decide (k = 7)), V.bl (decide (k = 8))])) → R _ from fun R r => r) _ ?_
  generalize upd H8 p (.lst [V.bl (decide (k = 0)), V.bl (decide (k = 1)), V.bl (decide (k = 2)), V.bl (decide (k = 3)), V.bl (decide (k = 4)), V.bl (decide (k = 5)), V.bl (decide (k = 6)), V.bl (decide (k = 7)), V.bl (decide (k = 8))]) = H9 at s9 he9 hp9 ⊢
  clear s8 he8 hp8
  refine ⟨_, rfl, .inl ⟨rfl, _, SqL.of hp9⟩, _, rfl, a, _, v, _, _, _, rfl, he9, .own _, T.kit k 9 hk (by decide), p, _, _, rfl, rfl, hp9, show 9 < sizeLine by decide, ?_⟩
  have s10 := same_mut (o := .lst [V.bl (decide (k = 0)), V.bl (decide (k = 1)), V.bl (decide (k = 2)), V.bl (decide (k = 3)), V.bl (decide (k = 4)), V.bl (decide (k = 5)), V.bl (decide (k = 6)), V.bl (decide (k = 7)), V.bl (decide (k = 8)), V.bl (decide (k = 9))]) s9 np
  have he10 := he.keep s10
  have hp10 : upd H9 p (.lst [V.bl (decide (k = 0)), V.bl (decide (k = 1)), V.bl (decide (k = 2)), V.bl (decide (k = 3)), V.bl (decide (k = 4)), V.bl (decide (k = 5)), V.bl (decide (k = 6)), V.bl (decide (k = 7)), V.bl (decide (k = 8)), V.bl (decide (k = 9))]) p = some (.lst [V.bl (decide (k = 0)), V.bl (decide (k = 1)), V.bl (decide (k = 2)), V.bl (decide (k = 3)), V.bl (decide (k = 4)), V.bl (decide (k = 5)), V.bl (decide (k = 6)), V.bl (decide (k = 7)), V.bl (decide (k = 8)), V.bl (decide (k = 9))]) := upd_same
  refine (show ∀ R : Hp → Prop, R (upd H9 p (.lst [V.bl (decide (k = 0)), V.bl (decide (k = 1)), V.bl (decide (k = 2)), V.bl (decide (k = 3)), V.bl (decide (k = 4)), V.bl (decide (k = 5)), V.bl (decide (k = 6)), V.bl (decide (k = 7)), V.bl (decide (k = 8)), V.bl (decide (k = 9))])) → R _ from fun R r => r) _ ?_
  generalize upd H9 p (.lst [V.bl (decide (k = 0)), V.bl (decide (k = 1)), V.bl (decide (k = 2)), V.bl (decide (k = 3)), V.bl (decide (k = 4)), V.bl (decide (k = 5)), V.bl (decide (k = 6)), V.bl (decide (k = 7)), V.bl (decide (k = 8)), V.bl (decide (k = 9))]) = H10 at s10 he10 hp10 ⊢
  clear s9 he9 hp9
  refine ⟨_, rfl, .inl ⟨rfl, _, SqL.of hp10⟩, _, rfl, a, _, v, _, _, _, rfl, he10, .own _, T.kit k 10 hk (by decide), p, _, _, rfl, rfl, hp10, show 10 < sizeLine by decide, ?_⟩
  have s11 := same_mut (o := .lst [V.bl (decide (k = 0)), V.bl (decide (k = 1)), V.bl (decide (k = 2)), V.bl (decide (k = 3)), V.bl (decide (k = 4)), V.bl (decide (k = 5)), V.bl (decide (k = 6)), V.bl (decide (k = 7)), V.bl (decide (k = 8)), V.bl (decide (k = 9)), V.bl (decide (k = 10))]) s10 np
  have he11 := he.keep s11
  have hp11 : upd H10 p (.lst [V.bl (decide (k = 0)), V.bl (decide (k = 1)), V.bl (decide (k = 2)), V.bl (decide (k = 3)), V.bl (decide (k = 4)), V.bl (decide (k = 5)), V.bl (decide (k = 6)), V.bl (decide (k = 7)), V.bl (decide (k = 8)), V.bl (decide (k = 9)), V.bl (decide (k = 10))]) p = some (.lst [V.bl (decide (k = 0)), V.bl (decide (k = 1)), V.bl (decide (k = 2)), V.bl (decide (k = 3)), V.bl (decide (k = 4)), V.bl (decide (k = 5)), V.bl (decide (k = 6)), V.bl (decide (k = 7)), V.bl (decide (k = 8)), V.bl (decide (k = 9)), V.bl (decide (k = 10))]) := upd_same
  refine (show ∀ R : Hp → Prop, R (upd H10 p (.lst [V.bl (decide (k = 0)), V.bl (decide (k = 1)), V.bl (decide (k = 2)), V.bl (decide (k = 3)), V.bl (decide (k = 4)), V.bl (decide (k = 5)), V.bl (decide (k = 6)), V.bl (decide (k = 7)), V.bl (decide (k = 8)), V.bl (decide (k = 9)), V.bl (decide (k = 10))])) → R _ from fun R r => r) _ ?_
  generalize upd H10 p (.lst [V.bl (decide (k = 0)), V.bl (decide (k = 1)), V.bl (decide (k = 2)), V.bl (decide (k = 3)), V.bl (decide (k = 4)), V.bl (decide (k = 5)), V.bl (decide (k = 6)), V.bl (decide (k = 7)), V.bl (decide (k = 8)), V.bl (decide (k = 9)), V.bl (decide (k = 10))]) = H11 at s11 he11 hp11 ⊢
  clear s10 he10 hp10
  refine ⟨_, rfl, .inl ⟨rfl, _, SqL.of hp11⟩, _, rfl, a, _, v, _, _, _, rfl, he11, .own _, T.kit k 11 hk (by decide), p, _, _, rfl, rfl, hp11, show 11 < sizeLine by decide, ?_⟩
  have s12 := same_mut (o := .lst [V.bl (decide (k = 0)), V.bl (decide (k = 1)), V.bl (decide (k = 2)), V.bl (decide (k = 3)), V.bl (decide (k = 4)), V.bl (decide (k = 5)), V.bl (decide (k = 6)), V.bl (decide (k = 7)), V.bl (decide (k = 8)), V.bl (decide (k = 9)), V.bl (decide (k = 10)), V.bl (decide (k = 11))]) s11 np
  have he12 := he.keep s12
  have hp12 : upd H11 p (.lst [V.bl (decide (k = 0)), V.bl (decide (k = 1)), V.bl (decide (k = 2)), V.bl (decide (k = 3)), V.bl (decide (k = 4)), V.bl (decide (k = 5)), V.bl (decide (k = 6)), V.bl (decide (k = 7)), V.bl (decide (k = 8)), V.bl (decide (k = 9)), V.bl (decide (k = 10)), V.bl (decide (k = 11))]) p = some (.lst [V.bl (decide (k = 0)), V.bl (decide (k = 1)), V.bl (decide (k = 2)), V.bl (decide (k = 3)), V.bl (decide (k = 4)), V.bl (decide (k = 5)), V.bl (decide (k = 6)), V.bl (decide (k = 7)), V.bl (decide (k = 8)), V.bl (decide (k = 9)), V.bl (decide (k = 10)), V.bl (decide (k = 11))]) := upd_same
  refine (show ∀ R : Hp → Prop, R (upd H11 p (.lst [V.bl (decide (k = 0)), V.bl (decide (k = 1)), V.bl (decide (k = 2)), V.bl (decide (k = 3)), V.bl (decide (k = 4)), V.bl (decide (k = 5)), V.bl (decide (k = 6)), V.bl (decide (k = 7)), V.bl (decide (k = 8)), V.bl (decide (k = 9)), V.bl (decide (k = 10)), V.bl (decide (k = 11))])) → R _ from fun R r => r) _ ?_
  generalize upd H11 p (.lst [V.bl (decide (k = 0)), V.bl (decide (k = 1)), V.bl (decide (k = 2)), V.bl (decide (k = 3)), V.bl (decide (k = 4)), V.bl (decide (k = 5)), V.bl (decide (k = 6)), V.bl (decide (k = 7)), V.bl (decide (k = 8)), V.bl (decide (k = 9)), V.bl (decide (k = 10)), V.bl (decide (k = 11))]) = H12 at s12 he12 hp12 ⊢
  clear s11 he11 hp11
  refine ⟨_, rfl, .inl ⟨rfl, _, SqL.of hp12⟩, _, rfl, a, _, v, _, _, _, rfl, he12, .own _, T.kit k 12 hk (by decide), p, _, _, rfl, rfl, hp12, show 12 < sizeLine by decide, ?_⟩
  have s13 := same_mut (o := .lst [V.bl (decide (k = 0)), V.bl (decide (k = 1)), V.bl (decide (k = 2)), V.bl (decide (k = 3)), V.bl (decide (k = 4)), V.bl (decide (k = 5)), V.bl (decide (k = 6)), V.bl (decide (k = 7)), V.bl (decide (k = 8)), V.bl (decide (k = 9)), V.bl (decide (k = 10)), V.bl (decide (k = 11)), V.bl (decide (k = 12))]) s12 np
  have he13 := he.keep s13
  have hp13 : upd H12 p (.lst [V.bl (decide (k = 0)), V.bl (decide (k = 1)), V.bl (decide (k = 2)), V.bl (decide (k = 3)), V.bl (decide (k = 4)), V.bl (decide (k = 5)), V.bl (decide (k = 6)), V.bl (decide (k = 7)), V.bl (decide (k = 8)), V.bl (decide (k = 9)), V.bl (decide (k = 10)), V.bl (decide (k = 11)), V.bl (decide (k = 12))]) p = some (.lst [V.bl (decide (k = 0)), V.bl (decide (k = 1)), V.bl (decide (k = 2)), V.bl (decide (k = 3)), V.bl (decide (k = 4)), V.bl (decide (k = 5)), V.bl (decide (k = 6)), V.bl (decide (k = 7)), V.bl (decide (k = 8)), V.bl (decide (k = 9)), V.bl (decide (k = 10)), V.bl (decide (k = 11)), V.bl (decide (k = 12))]) := upd_same
  refine (show ∀ R : Hp → Prop, R (upd H12 p (.lst [V.bl (decide (k = 0)), V.bl (decide (k = 1)), V.bl (decide (k = 2)), V.bl (decide (k = 3)), V.bl (decide (k = 4)), V.bl (decide (k = 5)), V.bl (decide (k = 6)), V.bl (decide (k = 7)), V.bl (decide (k = 8)), V.bl (decide (k = 9)), V.bl (decide (k = 10)), V.bl (decide (k = 11)), V.bl (decide (k = 12))])) → R _ from fun R r => r) _ ?_
  generalize upd H12 p (.lst [V.bl (decide (k = 0)), V.bl (decide (k = 1)), V.bl (decide (k = 2)), V.bl (decide (k = 3)), V.bl (decide (k = 4)), V.bl (decide (k = 5)), V.bl (decide (k = 6)), V.bl (decide (k = 7)), V.bl (decide (k = 8)), V.bl (decide (k = 9)), V.bl (decide (k = 10)), V.bl (decide (k = 11)), V.bl (decide (k = 12))]) = H13 at s13 he13 hp13 ⊢
  clear s12 he12 hp12
  refine ⟨_, rfl, .inl ⟨rfl, _, SqL.of hp13⟩, _, rfl, a, _, v, _, _, _, rfl, he13, .own _, T.kit k 13 hk (by decide), p, _, _, rfl, rfl, hp13, show 13 < sizeLine by decide, ?_⟩
  have s14 := same_mut (o := .lst [V.bl (decide (k = 0)), V.bl (decide (k = 1)), V.bl (decide (k = 2)), V.bl (decide (k = 3)), V.bl (decide (k = 4)), V.bl (decide (k = 5)), V.bl (decide (k = 6)), V.bl (decide (k = 7)), V.bl (decide (k = 8)), V.bl (decide (k = 9)), V.bl (decide (k = 10)), V.bl (decide (k = 11)), V.bl (decide (k = 12)), V.bl (decide (k = 13))]) s13 np
  have he14 := he.keep s14
  have hp14 : upd H13 p (.lst [V.bl (decide (k = 0)), V.bl (decide (k = 1)), V.bl (decide (k = 2)), V.bl (decide (k = 3)), V.bl (decide (k = 4)), V.bl (decide (k = 5)), V.bl (decide (k = 6)), V.bl (decide (k = 7)), V.bl (decide (k = 8)), V.bl (decide (k = 9)), V.bl (decide (k = 10)), V.bl (decide (k = 11)), V.bl (decide (k = 12)), V.bl (decide (k = 13))]) p = some (.lst [V.bl (decide (k = 0)), V.bl (decide (k = 1)), V.bl (decide (k = 2)), V.bl (decide (k = 3)), V.bl (decide (k = 4)), V.bl (decide (k = 5)), V.bl (decide (k = 6)), V.bl (decide (k = 7)), V.bl (decide (k = 8)), V.bl (decide (k = 9)), V.bl (decide (k = 10)), V.bl (decide (k = 11)), V.bl (decide (k = 12)), V.bl (decide (k = 13))]) := upd_same
  refine (show ∀ R : Hp → Prop, R (upd H13 p (.lst [V.bl (decide (k = 0)), V.bl (decide (k = 1)), V.bl (decide (k = 2)), V.bl (decide (k = 3)), V.bl (decide (k = 4)), V.bl (decide (k = 5)), V.bl (decide (k = 6)), V.bl (decide (k = 7)), V.bl (decide (k = 8)), V.bl (decide (k = 9)), V.bl (decide (k = 10)), V.bl (decide (k = 11)), V.bl (decide (k = 12)), V.bl (decide (k = 13))])) → R _ from fun R r => r) _ ?_
  generalize upd H13 p (.lst [V.bl (decide (k = 0)), V.bl (decide (k = 1)), V.bl (decide (k = 2)), V.bl (decide (k = 3)), V.bl (decide (k = 4)), V.bl (decide (k = 5)), V.bl (decide (k = 6)), V.bl (decide (k = 7)), V.bl (decide (k = 8)), V.bl (decide (k = 9)), V.bl (decide (k = 10)), V.bl (decide (k = 11)), V.bl (decide (k = 12)), V.bl (decide (k = 13))]) = H14 at s14 he14 hp14 ⊢
  clear s13 he13 hp13
  refine ⟨_, rfl, .inl ⟨rfl, _, SqL.of hp14⟩, _, rfl, a, _, v, _, _, _, rfl, he14, .own _, T.kit k 14 hk (by decide), p, _, _, rfl, rfl, hp14, show 14 < sizeLine by decide, ?_⟩
  have s15 := same_mut (o := .lst [V.bl (decide (k = 0)), V.bl (decide (k = 1)), V.bl (decide (k = 2)), V.bl (decide (k = 3)), V.bl (decide (k = 4)), V.bl (decide (k = 5)), V.bl (decide (k = 6)), V.bl (decide (k = 7)), V.bl (decide (k = 8)), V.bl (decide (k = 9)), V.bl (decide (k = 10)), V.bl (decide (k = 11)), V.bl (decide (k = 12)), V.bl (decide (k = 13)), V.bl (decide (k = 14))]) s14 np
  have he15 := he.keep s15
  have hp15 : upd H14 p (.lst [V.bl (decide (k = 0)), V.bl (decide (k = 1)), V.bl (decide (k = 2)), V.bl (decide (k = 3)), V.bl (decide (k = 4)), V.bl (decide (k = 5)), V.bl (decide (k = 6)), V.bl (decide (k = 7)), V.bl (decide (k = 8)), V.bl (decide (k = 9)), V.bl (decide (k = 10)), V.bl (decide (k = 11)), V.bl (decide (k = 12)), V.bl (decide (k = 13)), V.bl (decide (k = 14))]) p = some (.lst [V.bl (decide (k = 0)), V.bl (decide (k = 1)), V.bl (decide (k = 2)), V.bl (decide (k = 3)), V.bl (decide (k = 4)), V.bl (decide (k = 5)), V.bl (decide (k = 6)), V.bl (decide (k = 7)), V.bl (decide (k = 8)), V.bl (decide (k = 9)), V.bl (decide (k = 10)), V.bl (decide (k = 11)), V.bl (decide (k = 12)), V.bl (decide (k = 13)), V.bl (decide (k = 14))]) := upd_same
  refine (show ∀ R : Hp → Prop, R (upd H14 p (.lst [V.bl (decide (k = 0)), V.bl (decide (k = 1)), V.bl (decide (k = 2)), V.bl (decide (k = 3)), V.bl (decide (k = 4)), V.bl (decide (k = 5)), V.bl (decide (k = 6)), V.bl (decide (k = 7)), V.bl (decide (k = 8)), V.bl (decide (k = 9)), V.bl (decide (k = 10)), V.bl (decide (k = 11)), V.bl (decide (k = 12)), V.bl (decide (k = 13)), V.bl (decide (k = 14))])) → R _ from fun R r => r) _ ?_
  generalize upd H14 p (.lst [V.bl (decide (k = 0)), V.bl (decide (k = 1)), V.bl (decide (k = 2)), V.bl (decide (k = 3)), V.bl (decide (k = 4)), V.bl (decide (k = 5)), V.bl (decide (k = 6)), V.bl (decide (k = 7)), V.bl (decide (k = 8)), V.bl (decide (k = 9)), V.bl (decide (k = 10)), V.bl (decide (k = 11)), V.bl (decide (k = 12)), V.bl (decide (k = 13)), V.bl (decide (k = 14))]) = H15 at s15 he15 hp15 ⊢
  clear s14 he14 hp14
  refine ⟨_, rfl, .inl ⟨rfl, _, SqL.of hp15⟩, _, rfl, a, _, v, _, _, _, rfl, he15, .own _, T.kit k 15 hk (by decide), p, _, _, rfl, rfl, hp15, show 15 < sizeLine by decide, ?_⟩
  have s16 := same_mut (o := .lst [V.bl (decide (k = 0)), V.bl (decide (k = 1)), V.bl (decide (k = 2)), V.bl (decide (k = 3)), V.bl (decide (k = 4)), V.bl (decide (k = 5)), V.bl (decide (k = 6)), V.bl (decide (k = 7)), V.bl (decide (k = 8)), V.bl (decide (k = 9)), V.bl (decide (k = 10)), V.bl (decide (k = 11)), V.bl (decide (k = 12)), V.bl (decide (k = 13)), V.bl (decide (k = 14)), V.bl (decide (k = 15))]) s15 np
  have he16 := he.keep s16
  have hp16 : upd H15 p (.lst [V.bl (decide (k = 0)), V.bl (decide (k = 1)), V.bl (decide (k = 2)), V.bl (decide (k = 3)), V.bl (decide (k = 4)), V.bl (decide (k = 5)), V.bl (decide (k = 6)), V.bl (decide (k = 7)), V.bl (decide (k = 8)), V.bl (decide (k = 9)), V.bl (decide (k = 10)), V.bl (decide (k = 11)), V.bl (decide (k = 12)), V.bl (decide (k = 13)), V.bl (decide (k = 14)), V.bl (decide (k = 15))]) p = some (.lst [V.bl (decide (k = 0)), V.bl (decide (k = 1)), V.bl (decide (k = 2)), V.bl (decide (k = 3)), V.bl (decide (k = 4)), V.bl (decide (k = 5)), V.bl (decide (k = 6)), V.bl (decide (k = 7)), V.bl (decide (k = 8)), V.bl (decide (k = 9)), V.bl (decide (k = 10)), V.bl (decide (k = 11)), V.bl (decide (k = 12)), V.bl (decide (k = 13)), V.bl (decide (k = 14)), V.bl (decide (k = 15))]) := upd_same
  refine (show ∀ R : Hp → Prop, R (upd H15 p (.lst [V.bl (decide (k = 0)), V.bl (decide (k = 1)), V.bl (decide (k = 2)), V.bl (decide (k = 3)), V.bl (decide (k = 4)), V.bl (decide (k = 5)), V.bl (decide (k = 6)), V.bl (decide (k = 7)), V.bl (decide (k = 8)), V.bl (decide (k = 9)), V.bl (decide (k = 10)), V.bl (decide (k = 11)), V.bl (decide (k = 12)), V.bl (decide (k = 13)), V.bl (decide (k = 14)), V.bl (decide (k = 15))])) → R _ from fun R r => r) _ ?_
  generalize upd H15 p (.lst [V.bl (decide (k = 0)), V.bl (decide (k = 1)), V.bl (decide (k = 2)), V.bl (decide (k = 3)), V.bl (decide (k = 4)), V.bl (decide (k = 5)), V.bl (decide (k = 6)), V.bl (decide (k = 7)), V.bl (decide (k = 8)), V.bl (decide (k = 9)), V.bl (decide (k = 10)), V.bl (decide (k = 11)), V.bl (decide (k = 12)), V.bl (decide (k = 13)), V.bl (decide (k = 14)), V.bl (decide (k = 15))]) = H16 at s16 he16 hp16 ⊢
  clear s15 he15 hp15
  refine ⟨_, rfl, .inl ⟨rfl, _, SqL.of hp16⟩, _, rfl, a, _, v, _, _, _, rfl, he16, .own _, T.kit k 16 hk (by decide), p, _, _, rfl, rfl, hp16, show 16 < sizeLine by decide, ?_⟩
  have s17 := same_mut (o := .lst [V.bl (decide (k = 0)), V.bl (decide (k = 1)), V.bl (decide (k = 2)), V.bl (decide (k = 3)), V.bl (decide (k = 4)), V.bl (decide (k = 5)), V.bl (decide (k = 6)), V.bl (decide (k = 7)), V.bl (decide (k = 8)), V.bl (decide (k = 9)), V.bl (decide (k = 10)), V.bl (decide (k = 11)), V.bl (decide (k = 12)), V.bl (decide (k = 13)), V.bl (decide (k = 14)), V.bl (decide (k = 15)), V.bl (decide (k = 16))]) s16 np
  have he17 := he.keep s17
  have hp17 : upd H16 p (.lst [V.bl (decide (k = 0)), V.bl (decide (k = 1)), V.bl (decide (k = 2)), V.bl (decide (k = 3)), V.bl (decide (k = 4)), V.bl (decide (k = 5)), V.bl (decide (k = 6)), V.bl (decide (k = 7)), V.bl (decide (k = 8)), V.bl (decide (k = 9)), V.bl (decide (k = 10)), V.bl (decide (k = 11)), V.bl (decide (k = 12)), V.bl (decide (k = 13)), V.bl (decide (k = 14)), V.bl (decide (k = 15)), V.bl (decide (k = 16))]) p = some (.lst [V.bl (decide (k = 0)), V.bl (decide (k = 1)), V.bl (decide (k = 2)), V.bl (decide (k = 3)), V.bl (decide (k = 4)), V.bl (decide (k = 5)), V.bl (decide (k = 6)), V.bl (decide (k = 7)), V.bl (decide (k = 8)), V.bl (decide (k = 9)), V.bl (decide (k = 10)), V.bl (decide (k = 11)), V.bl (decide (k = 12)), V.bl (decide (k = 13)), V.bl (decide (k = 14)), V.bl (decide (k = 15)), V.bl (decide (k = 16))]) := upd_same
  refine (show ∀ R : Hp → Prop, R (upd H16 p (.lst [V.bl (decide (k = 0)), V.bl (decide (k = 1)), V.bl (decide (k = 2)), V.bl (decide (k = 3)), V.bl (decide (k = 4)), V.bl (decide (k = 5)), V.bl (decide (k = 6)), V.bl (decide (k = 7)), V.bl (decide (k = 8)), V.bl (decide (k = 9)), V.bl (decide (k = 10)), V.bl (decide (k = 11)), V.bl (decide (k = 12)), V.bl (decide (k = 13)), V.bl (decide (k = 14)), V.bl (decide (k = 15)), V.bl (decide (k = 16))])) → R _ from fun R r => r) _ ?_
  generalize upd H16 p (.lst [V.bl (decide (k = 0)), V.bl (decide (k = 1)), V.bl (decide (k = 2)), V.bl (decide (k = 3)), V.bl (decide (k = 4)), V.bl (decide (k = 5)), V.bl (decide (k = 6)), V.bl (decide (k = 7)), V.bl (decide (k = 8)), V.bl (decide (k = 9)), V.bl (decide (k = 10)), V.bl (decide (k = 11)), V.bl (decide (k = 12)), V.bl (decide (k = 13)), V.bl (decide (k = 14)), V.bl (decide (k = 15)), V.bl (decide (k = 16))]) = H17 at s17 he17 hp17 ⊢
  clear s16 he16 hp16
  refine ⟨_, rfl, .inl ⟨rfl, _, SqL.of hp17⟩, _, rfl, a, _, v, _, _, _, rfl, he17, .own _, T.kit k 17 hk (by decide), p, _, _, rfl, rfl, hp17, show 17 < sizeLine by decide, ?_⟩
  have s18 := same_mut (o := .lst [V.bl (decide (k = 0)), V.bl (decide (k = 1)), V.bl (decide (k = 2)), V.bl (decide (k = 3)), V.bl (decide (k = 4)), V.bl (decide (k = 5)), V.bl (decide (k = 6)), V.bl (decide (k = 7)), V.bl (decide (k = 8)), V.bl (decide (k = 9)), V.bl (decide (k = 10)), V.bl (decide (k = 11)), V.bl (decide (k = 12)), V.bl (decide (k = 13)), V.bl (decide (k = 14)), V.bl (decide (k = 15)), V.bl (decide (k = 16)), V.bl (decide (k = 17))]) s17 np
  have he18 := he.keep s18
  have hp18 : upd H17 p (.lst [V.bl (decide (k = 0)), V.bl (decide (k = 1)), V.bl (decide (k = 2)), V.bl (decide (k = 3)), V.bl (decide (k = 4)), V.bl (decide (k = 5)), V.bl (decide (k = 6)), V.bl (decide (k = 7)), V.bl (decide (k = 8)), V.bl (decide (k = 9)), V.bl (decide (k = 10)), V.bl (decide (k = 11)), V.bl (decide (k = 12)), V.bl (decide (k = 13)), V.bl (decide (k = 14)), V.bl (decide (k = 15)), V.bl (decide (k = 16)), V.bl (decide (k = 17))]) p = some (.lst [V.bl (decide (k = 0)), V.bl (decide (k = 1)), V.bl (decide (k = 2)), V.bl (decide (k = 3)), V.bl (decide (k = 4)), V.bl (decide (k = 5)), V.bl (decide (k = 6)), V.bl (decide (k = 7)), V.bl (decide (k = 8)), V.bl (decide (k = 9)), V.bl (decide (k = 10)), V.bl (decide (k = 11)), V.bl (decide (k = 12)), V.bl (decide (k = 13)), V.bl (decide (k = 14)), V.bl (decide (k = 15)), V.bl (decide (k = 16)), V.bl (decide (k = 17))]) := upd_same
  refine (show ∀ R : Hp → Prop, R (upd H17 p (.lst [V.bl (decide (k = 0)), V.bl (decide (k = 1)), V.bl (decide (k = 2)), V.bl (decide (k = 3)), V.bl (decide (k = 4)), V.bl (decide (k = 5)), V.bl (decide (k = 6)), V.bl (decide (k = 7)), V.bl (decide (k = 8)), V.bl (decide (k = 9)), V.bl (decide (k = 10)), V.bl (decide (k = 11)), V.bl (decide (k = 12)), V.bl (decide (k = 13)), V.bl (decide (k = 14)), V.bl (decide (k = 15)), V.bl (decide (k = 16)), V.bl (decide (k = 17))])) → R _ from fun R r => r) _ ?_
  generalize upd H17 p (.lst [V.bl (decide (k = 0)), V.bl (decide (k = 1)), V.bl (decide (k = 2)), V.bl (decide (k = 3)), V.bl (decide (k = 4)), V.bl (decide (k = 5)), V.bl (decide (k = 6)), V.bl (decide (k = 7)), V.bl (decide (k = 8)), V.bl (decide (k = 9)), V.bl (decide (k = 10)), V.bl (decide (k = 11)), V.bl (decide (k = 12)), V.bl (decide (k = 13)), V.bl (decide (k = 14)), V.bl (decide (k = 15)), V.bl (decide (k = 16)), V.bl (decide (k = 17))]) = H18 at s18 he18 hp18 ⊢
  clear s17 he17 hp17
  refine ⟨_, rfl, .inl ⟨rfl, _, SqL.of hp18⟩, _, rfl, a, _, v, _, _, _, rfl, he18, .own _, T.kit k 18 hk (by decide), p, _, _, rfl, rfl, hp18, show 18 < sizeLine by decide, ?_⟩
  have s19 := same_mut (o := .lst [V.bl (decide (k = 0)), V.bl (decide (k = 1)), V.bl (decide (k = 2)), V.bl (decide (k = 3)), V.bl (decide (k = 4)), V.bl (decide (k = 5)), V.bl (decide (k = 6)), V.bl (decide (k = 7)), V.bl (decide (k = 8)), V.bl (decide (k = 9)), V.bl (decide (k = 10)), V.bl (decide (k = 11)), V.bl (decide (k = 12)), V.bl (decide (k = 13)), V.bl (decide (k = 14)), V.bl (decide (k = 15)), V.bl (decide (k = 16)), V.bl (decide (k = 17)), V.bl (decide (k = 18))]) s18 np
  have he19 := he.keep s19
  have hp19 : upd H18 p (.lst [V.bl (decide (k = 0)), V.bl (decide (k = 1)), V.bl (decide (k = 2)), V.bl (decide (k = 3)), V.bl (decide (k = 4)), V.bl (decide (k = 5)), V.bl (decide (k = 6)), V.bl (decide (k = 7)), V.bl (decide (k = 8)), V.bl (decide (k = 9)), V.bl (decide (k = 10)), V.bl (decide (k = 11)), V.bl (decide (k = 12)), V.bl (decide (k = 13)), V.bl (decide (k = 14)), V.bl (decide (k = 15)), V.bl (decide (k = 16)), V.bl (decide (k = 17)), V.bl (decide (k = 18))]) p = some (.lst [V.bl (decide (k = 0)), V.bl (decide (k = 1)), V.bl (decide (k = 2)), V.bl (decide (k = 3)), V.bl (decide (k = 4)), V.bl (decide (k = 5)), V.bl (decide (k = 6)), V.bl (decide (k = 7)), V.bl (decide (k = 8)), V.bl (decide (k = 9)), V.bl (decide (k = 10)), V.bl (decide (k = 11)), V.bl (decide (k = 12)), V.bl (decide (k = 13)), V.bl (decide (k = 14)), V.bl (decide (k = 15)), V.bl (decide (k = 16)), V.bl (decide (k = 17)), V.bl (decide (k = 18))]) := upd_same
  refine (show ∀ R : Hp → Prop, R (upd H18 p (.lst [V.bl (decide (k = 0)), V.bl (decide (k = 1)), V.bl (decide (k = 2)), V.bl (decide (k = 3)), V.bl (decide (k = 4)), V.bl (decide (k = 5)), V.bl (decide (k = 6)), V.bl (decide (k = 7)), V.bl (decide (k = 8)), V.bl (decide (k = 9)), V.bl (decide (k = 10)), V.bl (decide (k = 11)), V.bl (decide (k = 12)), V.bl (decide (k = 13)), V.bl (decide (k = 14)), V.bl (decide (k = 15)), V.bl (decide (k = 16)), V.bl (decide (k = 17)), V.bl (decide (k = 18))])) → R _ from fun R r => r) _ ?_
  generalize upd H18 p (.lst [V.bl (decide (k = 0)), V.bl (decide (k = 1)), V.bl (decide (k = 2)), V.bl (decide (k = 3)), V.bl (decide (k = 4)), V.bl (decide (k = 5)), V.bl (decide (k = 6)), V.bl (decide (k = 7)), V.bl (decide (k = 8)), V.bl (decide (k = 9)), V.bl (decide (k = 10)), V.bl (decide (k = 11)), V.bl (decide (k = 12)), V.bl (decide (k = 13)), V.bl (decide (k = 14)), V.bl (decide (k = 15)), V.bl (decide (k = 16)), V.bl (decide (k = 17)), V.bl (decide (k = 18))]) = H19 at s19 he19 hp19 ⊢
  clear s18 he18 hp18
  refine ⟨_, rfl, .inl ⟨rfl, _, SqL.of hp19⟩, _, rfl, a, _, v, _, _, _, rfl, he19, .own _, T.kit k 19 hk (by decide), p, _, _, rfl, rfl, hp19, show 19 < sizeLine by decide, ?_⟩
  have s20 := same_mut (o := .lst [V.bl (decide (k = 0)), V.bl (decide (k = 1)), V.bl (decide (k = 2)), V.bl (decide (k = 3)), V.bl (decide (k = 4)), V.bl (decide (k = 5)), V.bl (decide (k = 6)), V.bl (decide (k = 7)), V.bl (decide (k = 8)), V.bl (decide (k = 9)), V.bl (decide (k = 10)), V.bl (decide (k = 11)), V.bl (decide (k = 12)), V.bl (decide (k = 13)), V.bl (decide (k = 14)), V.bl (decide (k = 15)), V.bl (decide (k = 16)), V.bl (decide (k = 17)), V.bl (decide (k = 18)), V.bl (decide (k = 19))]) s19 np
  have he20 := he.keep s20
  have hp20 : upd H19 p (.lst [V.bl (decide (k = 0)), V.bl (decide (k = 1)), V.bl (decide (k = 2)), V.bl (decide (k = 3)), V.bl (decide (k = 4)), V.bl (decide (k = 5)), V.bl (decide (k = 6)), V.bl (decide (k = 7)), V.bl (decide (k = 8)), V.bl (decide (k = 9)), V.bl (decide (k = 10)), V.bl (decide (k = 11)), V.bl (decide (k = 12)), V.bl (decide (k = 13)), V.bl (decide (k = 14)), V.bl (decide (k = 15)), V.bl (decide (k = 16)), V.bl (decide (k = 17)), V.bl (decide (k = 18)), V.bl (decide (k = 19))]) p = some (.lst [V.bl (decide (k = 0)), V.bl (decide (k = 1)), V.bl (decide (k = 2)), V.bl (decide (k = 3)), V.bl (decide (k = 4)), V.bl (decide (k = 5)), V.bl (decide (k = 6)), V.bl (decide (k = 7)), V.bl (decide (k = 8)), V.bl (decide (k = 9)), V.bl (decide (k = 10)), V.bl (decide (k = 11)), V.bl (decide (k = 12)), V.bl (decide (k = 13)), V.bl (decide (k = 14)), V.bl (decide (k = 15)), V.bl (decide (k = 16)), V.bl (decide (k = 17)), V.bl (decide (k = 18)), V.bl (decide (k = 19))]) := upd_same
  refine (show ∀ R : Hp → Prop, R (upd H19 p (.lst [V.bl (decide (k = 0)), V.bl (decide (k = 1)), V.bl (decide (k = 2)), V.bl (decide (k = 3)), V.bl (decide (k = 4)), V.bl (decide (k = 5)), V.bl (decide (k = 6)), V.bl (decide (k = 7)), V.bl (decide (k = 8)), V.bl (decide (k = 9)), V.bl (decide (k = 10)), V.bl (decide (k = 11)), V.bl (decide (k = 12)), V.bl (decide (k = 13)), V.bl (decide (k = 14)), V.bl (decide (k = 15)), V.bl (decide (k = 16)), V.bl (decide (k = 17)), V.bl (decide (k = 18)), V.bl (decide (k = 19))])) → R _ from fun R r => r) _ ?_
  generalize upd H19 p (.lst [V.bl (decide (k = 0)), V.bl (decide (k = 1)), V.bl (decide (k = 2)), V.bl (decide (k = 3)), V.bl (decide (k = 4)), V.bl (decide (k = 5)), V.bl (decide (k = 6)), V.bl (decide (k = 7)), V.bl (decide (k = 8)), V.bl (decide (k = 9)), V.bl (decide (k = 10)), V.bl (decide (k = 11)), V.bl (decide (k = 12)), V.bl (decide (k = 13)), V.bl (decide (k = 14)), V.bl (decide (k = 15)), V.bl (decide (k = 16)), V.bl (decide (k = 17)), V.bl (decide (k = 18)), V.bl (decide (k = 19))]) = H20 at s20 he20 hp20 ⊢
  clear s19 he19 hp19
  refine ⟨_, rfl, .inl ⟨rfl, _, SqL.of hp20⟩, _, rfl, a, _, v, _, _, _, rfl, he20, .own _, T.kit k 20 hk (by decide), p, _, _, rfl, rfl, hp20, show 20 < sizeLine by decide, ?_⟩
  have s21 := same_mut (o := .lst [V.bl (decide (k = 0)), V.bl (decide (k = 1)), V.bl (decide (k = 2)), V.bl (decide (k = 3)), V.bl (decide (k = 4)), V.bl (decide (k = 5)), V.bl (decide (k = 6)), V.bl (decide (k = 7)), V.bl (decide (k = 8)), V.bl (decide (k = 9)), V.bl (decide (k = 10)), V.bl (decide (k = 11)), V.bl (decide (k = 12)), V.bl (decide (k = 13)), V.bl (decide (k = 14)), V.bl (decide (k = 15)), V.bl (decide (k = 16)), V.bl (decide (k = 17)), V.bl (decide (k = 18)), V.bl (decide (k = 19)), V.bl (decide (k = 20))]) s20 np
  have he21 := he.keep s21
  have hp21 : upd H20 p (.lst [V.bl (decide (k = 0)), V.bl (decide (k = 1)), V.bl (decide (k = 2)), V.bl (decide (k = 3)), V.bl (decide (k = 4)), V.bl (decide (k = 5)), V.bl (decide (k = 6)), V.bl (decide (k = 7)), V.bl (decide (k = 8)), V.bl (decide (k = 9)), V.bl (decide (k = 10)), V.bl (decide (k = 11)), V.bl (decide (k = 12)), V.bl (decide (k = 13)), V.bl (decide (k = 14)), V.bl (decide (k = 15)), V.bl (decide (k = 16)), V.bl (decide (k = 17)), V.bl (decide (k = 18)), V.bl (decide (k = 19)), V.bl (decide (k = 20))]) p = some (.lst [V.bl (decide (k = 0)), V.bl (decide (k = 1)), V.bl (decide (k = 2)), V.bl (decide (k = 3)), V.bl (decide (k = 4)), V.bl (decide (k = 5)), V.bl (decide (k = 6)), V.bl (decide (k = 7)), V.bl (decide (k = 8)), V.bl (decide (k = 9)), V.bl (decide (k = 10)), V.bl (decide (k = 11)), V.bl (decide (k = 12)), V.bl (decide (k = 13)), V.bl (decide (k = 14)), V.bl (decide (k = 15)), V.bl (decide (k = 16)), V.bl (decide (k = 17)), V.bl (decide (k = 18)), V.bl (decide (k = 19)), V.bl (decide (k = 20))]) := upd_same
  refine (show ∀ R : Hp → Prop, R (upd H20 p (.lst [V.bl (decide (k = 0)), V.bl (decide (k = 1)), V.bl (decide (k = 2)), V.bl (decide (k = 3)), V.bl (decide (k = 4)), V.bl (decide (k = 5)), V.bl (decide (k = 6)), V.bl (decide (k = 7)), V.bl (decide (k = 8)), V.bl (decide (k = 9)), V.bl (decide (k = 10)), V.bl (decide (k = 11)), V.bl (decide (k = 12)), V.bl (decide (k = 13)), V.bl (decide (k = 14)), V.bl (decide (k = 15)), V.bl (decide (k = 16)), V.bl (decide (k = 17)), V.bl (decide (k = 18)), V.bl (decide (k = 19)), V.bl (decide (k = 20))])) → R _ from fun R r => r) _ ?_
  generalize upd H20 p (.lst [V.bl (decide (k = 0)), V.bl (decide (k = 1)), V.bl (decide (k = 2)), V.bl (decide (k = 3)), V.bl (decide (k = 4)), V.bl (decide (k = 5)), V.bl (decide (k = 6)), V.bl (decide (k = 7)), V.bl (decide (k = 8)), V.bl (decide (k = 9)), V.bl (decide (k = 10)), V.bl (decide (k = 11)), V.bl (decide (k = 12)), V.bl (decide (k = 13)), V.bl (decide (k = 14)), V.bl (decide (k = 15)), V.bl (decide (k = 16)), V.bl (decide (k = 17)), V.bl (decide (k = 18)), V.bl (decide (k = 19)), V.bl (decide (k = 20))]) = H21 at s21 he21 hp21 ⊢
  clear s20 he20 hp20
  refine ⟨_, rfl, .inl ⟨rfl, _, SqL.of hp21⟩, _, rfl, a, _, v, _, _, _, rfl, he21, .own _, T.kit k 21 hk (by decide), p, _, _, rfl, rfl, hp21, show 21 < sizeLine by decide, ?_⟩
  have s22 := same_mut (o := .lst [V.bl (decide (k = 0)), V.bl (decide (k = 1)), V.bl (decide (k = 2)), V.bl (decide (k = 3)), V.bl (decide (k = 4)), V.bl (decide (k = 5)), V.bl (decide (k = 6)), V.bl (decide (k = 7)), V.bl (decide (k = 8)), V.bl (decide (k = 9)), V.bl (decide (k = 10)), V.bl (decide (k = 11)), V.bl (decide (k = 12)), V.bl (decide (k = 13)), V.bl (decide (k = 14)), V.bl (decide (k = 15)), V.bl (decide (k = 16)), V.bl (decide (k = 17)), V.bl (decide (k = 18)), V.bl (decide (k = 19)), V.bl (decide (k = 20)), V.bl (decide (k = 21))]) s21 np
  have he22 := he.keep s22
  have hp22 : upd H21 p (.lst [V.bl (decide (k = 0)), V.bl (decide (k = 1)), V.bl (decide (k = 2)), V.bl (decide (k = 3)), V.bl (decide (k = 4)), V.bl (decide (k = 5)), V.bl (decide (k = 6)), V.bl (decide (k = 7)), V.bl (decide (k = 8)), V.bl (decide (k = 9)), V.bl (decide (k = 10)), V.bl (decide (k = 11)), V.bl (decide (k = 12)), V.bl (decide (k = 13)), V.bl (decide (k = 14)), V.bl (decide (k = 15)), V.bl (decide (k = 16)), V.bl (decide (k = 17)), V.bl (decide (k = 18)), V.bl (decide (k = 19)), V.bl (decide (k = 20)), V.bl (decide (k = 21))]) p = some (.lst [V.bl (decide (k = 0)), V.bl (decide (k = 1)), V.bl (decide (k = 2)), V.bl (decide (k = 3)), V.bl (decide (k = 4)), V.bl (decide (k = 5)), V.bl (decide (k = 6)), V.bl (decide (k = 7)), V.bl (decide (k = 8)), V.bl (decide (k = 9)), V.bl (decide (k = 10)), V.bl (decide (k = 11)), V.bl (decide (k = 12)), V.bl (decide (k = 13)), V.bl (decide (k = 14)), V.bl (decide (k = 15)), V.bl (decide (k = 16)), V.bl (decide (k = 17)), V.bl (decide (k = 18)), V.bl (decide (k = 19)), V.bl (decide (k = 20)), V.bl (decide (k = 21))]) := upd_same
  refine (show ∀ R : Hp → Prop, R (upd H21 p (.lst [V.bl (decide (k = 0)), V.bl (decide (k = 1)), V.bl (decide (k = 2)), V.bl (decide (k = 3)), V.bl (decide (k = 4)), V.bl (decide (k = 5)), V.bl (decide (k = 6)), V.bl (decide (k = 7)), V.bl (decide (k = 8)), V.bl (decide (k = 9)), V.bl (decide (k = 10)), V.bl (decide (k = 11)), V.bl (decide (k = 12)), V.bl (decide (k = 13)), V.bl (decide (k = 14)), V.bl (decide (k = 15)), V.bl (decide (k = 16)), V.bl (decide (k = 17)), V.bl (decide (k = 18)), V.bl (decide (k = 19)), V.bl (decide (k = 20)), V.bl (decide (k = 21))])) → R _ from fun R r => r) _ ?_
  generalize upd H21 p (.lst [V.bl (decide (k = 0)), V.bl (decide (k = 1)), V.bl (decide (k = 2)), V.bl (decide (k = 3)), V.bl (decide (k = 4)), V.bl (decide (k = 5)), V.bl (decide (k = 6)), V.bl (decide (k = 7)), V.bl (decide (k = 8)), V.bl (decide (k = 9)), V.bl (decide (k = 10)), V.bl (decide (k = 11)), V.bl (decide (k = 12)), V.bl (decide (k = 13)), V.bl (decide (k = 14)), V.bl (decide (k = 15)), V.bl (decide (k = 16)), V.bl (decide (k = 17)), V.bl (decide (k = 18)), V.bl (decide (k = 19)), V.bl (decide (k = 20)), V.bl (decide (k = 21))]) = H22 at s22 he22 hp22 ⊢
  clear s21 he21 hp21
  refine ⟨_, rfl, .inl ⟨rfl, _, SqL.of hp22⟩, _, rfl, a, _, v, _, _, _, rfl, he22, .own _, T.kit k 22 hk (by decide), p, _, _, rfl, rfl, hp22, show 22 < sizeLine by decide, ?_⟩
  have s23 := same_mut (o := .lst [V.bl (decide (k = 0)), V.bl (decide (k = 1)), V.bl (decide (k = 2)), V.bl (decide (k = 3)), V.bl (decide (k = 4)), V.bl (decide (k = 5)), V.bl (decide (k = 6)), V.bl (decide (k = 7)), V.bl (decide (k = 8)), V.bl (decide (k = 9)), V.bl (decide (k = 10)), V.bl (decide (k = 11)), V.bl (decide (k = 12)), V.bl (decide (k = 13)), V.bl (decide (k = 14)), V.bl (decide (k = 15)), V.bl (decide (k = 16)), V.bl (decide (k = 17)), V.bl (decide (k = 18)), V.bl (decide (k = 19)), V.bl (decide (k = 20)), V.bl (decide (k = 21)), V.bl (decide (k = 22))]) s22 np
  have he23 := he.keep s23
  have hp23 : upd H22 p (.lst [V.bl (decide (k = 0)), V.bl (decide (k = 1)), V.bl (decide (k = 2)), V.bl (decide (k = 3)), V.bl (decide (k = 4)), V.bl (decide (k = 5)), V.bl (decide (k = 6)), V.bl (decide (k = 7)), V.bl (decide (k = 8)), V.bl (decide (k = 9)), V.bl (decide (k = 10)), V.bl (decide (k = 11)), V.bl (decide (k = 12)), V.bl (decide (k = 13)), V.bl (decide (k = 14)), V.bl (decide (k = 15)), V.bl (decide (k = 16)), V.bl (decide (k = 17)), V.bl (decide (k = 18)), V.bl (decide (k = 19)), V.bl (decide (k = 20)), V.bl (decide (k = 21)), V.bl (decide (k = 22))]) p = some (.lst [V.bl (decide (k = 0)), V.bl (decide (k = 1)), V.bl (decide (k = 2)), V.bl (decide (k = 3)), V.bl (decide (k = 4)), V.bl (decide (k = 5)), V.bl (decide (k = 6)), V.bl (decide (k = 7)), V.bl (decide (k = 8)), V.bl (decide (k = 9)), V.bl (decide (k = 10)), V.bl (decide (k = 11)), V.bl (decide (k = 12)), V.bl (decide (k = 13)), V.bl (decide (k = 14)), V.bl (decide (k = 15)), V.bl (decide (k = 16)), V.bl (decide (k = 17)), V.bl (decide (k = 18)), V.bl (decide (k = 19)), V.bl (decide (k = 20)), V.bl (decide (k = 21)), V.bl (decide (k = 22))]) := upd_same
  refine (show ∀ R : Hp → Prop, R (upd H22 p (.lst [V.bl (decide (k = 0)), V.bl (decide (k = 1)), V.bl (decide (k = 2)), V.bl (decide (k = 3)), V.bl (decide (k = 4)), V.bl (decide (k = 5)), V.bl (decide (k = 6)), V.bl (decide (k = 7)), V.bl (decide (k = 8)), V.bl (decide (k = 9)), V.bl (decide (k = 10)), V.bl (decide (k = 11)), V.bl (decide (k = 12)), V.bl (decide (k = 13)), V.bl (decide (k = 14)), V.bl (decide (k = 15)), V.bl (decide (k = 16)), V.bl (decide (k = 17)), V.bl (decide (k = 18)), V.bl (decide (k = 19)), V.bl (decide (k = 20)), V.bl (decide (k = 21)), V.bl (decide (k = 22))])) → R _ from fun R r => r) _ ?_
  generalize upd H22 p (.lst [V.bl (decide (k = 0)), V.bl (decide (k = 1)), V.bl (decide (k = 2)), V.bl (decide (k = 3)), V.bl (decide (k = 4)), V.bl (decide (k = 5)), V.bl (decide (k = 6)), V.bl (decide (k = 7)), V.bl (decide (k = 8)), V.bl (decide (k = 9)), V.bl (decide (k = 10)), V.bl (decide (k = 11)), V.bl (decide (k = 12)), V.bl (decide (k = 13)), V.bl (decide (k = 14)), V.bl (decide (k = 15)), V.bl (decide (k = 16)), V.bl (decide (k = 17)), V.bl (decide (k = 18)), V.bl (decide (k = 19)), V.bl (decide (k = 20)), V.bl (decide (k = 21)), V.bl (decide (k = 22))]) = H23 at s23 he23 hp23 ⊢
  clear s22 he22 hp22
  refine ⟨_, rfl, .inl ⟨rfl, _, SqL.of hp23⟩, _, rfl, a, _, v, _, _, _, rfl, he23, .own _, T.kit k 23 hk (by decide), p, _, _, rfl, rfl, hp23, show 23 < sizeLine by decide, ?_⟩
  have s24 := same_mut (o := .lst [V.bl (decide (k = 0)), V.bl (decide (k = 1)), V.bl (decide (k = 2)), V.bl (decide (k = 3)), V.bl (decide (k = 4)), V.bl (decide (k = 5)), V.bl (decide (k = 6)), V.bl (decide (k = 7)), V.bl (decide (k = 8)), V.bl (decide (k = 9)), V.bl (decide (k = 10)), V.bl (decide (k = 11)), V.bl (decide (k = 12)), V.bl (decide (k = 13)), V.bl (decide (k = 14)), V.bl (decide (k = 15)), V.bl (decide (k = 16)), V.bl (decide (k = 17)), V.bl (decide (k = 18)), V.bl (decide (k = 19)), V.bl (decide (k = 20)), V.bl (decide (k = 21)), V.bl (decide (k = 22)), V.bl (decide (k = 23))]) s23 np
  have he24 := he.keep s24
  have hp24 : upd H23 p (.lst [V.bl (decide (k = 0)), V.bl (decide (k = 1)), V.bl (decide (k = 2)), V.bl (decide (k = 3)), V.bl (decide (k = 4)), V.bl (decide (k = 5)), V.bl (decide (k = 6)), V.bl (decide (k = 7)), V.bl (decide (k = 8)), V.bl (decide (k = 9)), V.bl (decide (k = 10)), V.bl (decide (k = 11)), V.bl (decide (k = 12)), V.bl (decide (k = 13)), V.bl (decide (k = 14)), V.bl (decide (k = 15)), V.bl (decide (k = 16)), V.bl (decide (k = 17)), V.bl (decide (k = 18)), V.bl (decide (k = 19)), V.bl (decide (k = 20)), V.bl (decide (k = 21)), V.bl (decide (k = 22)), V.bl (decide (k = 23))]) p = some (.lst [V.bl (decide (k = 0)), V.bl (decide (k = 1)), V.bl (decide (k = 2)), V.bl (decide (k = 3)), V.bl (decide (k = 4)), V.bl (decide (k = 5)), V.bl (decide (k = 6)), V.bl (decide (k = 7)), V.bl (decide (k = 8)), V.bl (decide (k = 9)), V.bl (decide (k = 10)), V.bl (decide (k = 11)), V.bl (decide (k = 12)), V.bl (decide (k = 13)), V.bl (decide (k = 14)), V.bl (decide (k = 15)), V.bl (decide (k = 16)), V.bl (decide (k = 17)), V.bl (decide (k = 18)), V.bl (decide (k = 19)), V.bl (decide (k = 20)), V.bl (decide (k = 21)), V.bl (decide (k = 22)), V.bl (decide (k = 23))]) := upd_same
  refine (show ∀ R : Hp → Prop, R (upd H23 p (.lst [V.bl (decide (k = 0)), V.bl (decide (k = 1)), V.bl (decide (k = 2)), V.bl (decide (k = 3)), V.bl (decide (k = 4)), V.bl (decide (k = 5)), V.bl (decide (k = 6)), V.bl (decide (k = 7)), V.bl (decide (k = 8)), V.bl (decide (k = 9)), V.bl (decide (k = 10)), V.bl (decide (k = 11)), V.bl (decide (k = 12)), V.bl (decide (k = 13)), V.bl (decide (k = 14)), V.bl (decide (k = 15)), V.bl (decide (k = 16)), V.bl (decide (k = 17)), V.bl (decide (k = 18)), V.bl (decide (k = 19)), V.bl (decide (k = 20)), V.bl (decide (k = 21)), V.bl (decide (k = 22)), V.bl (decide (k = 23))])) → R _ from fun R r => r) _ ?_
  generalize upd H23 p (.lst [V.bl (decide (k = 0)), V.bl (decide (k = 1)), V.bl (decide (k = 2)), V.bl (decide (k = 3)), V.bl (decide (k = 4)), V.bl (decide (k = 5)), V.bl (decide (k = 6)), V.bl (decide (k = 7)), V.bl (decide (k = 8)), V.bl (decide (k = 9)), V.bl (decide (k = 10)), V.bl (decide (k = 11)), V.bl (decide (k = 12)), V.bl (decide (k = 13)), V.bl (decide (k = 14)), V.bl (decide (k = 15)), V.bl (decide (k = 16)), V.bl (decide (k = 17)), V.bl (decide (k = 18)), V.bl (decide (k = 19)), V.bl (decide (k = 20)), V.bl (decide (k = 21)), V.bl (decide (k = 22)), V.bl (decide (k = 23))]) = H24 at s24 he24 hp24 ⊢
  clear s23 he23 hp23
  refine ⟨_, rfl, .inl ⟨rfl, _, SqL.of hp24⟩, _, rfl, a, _, v, _, _, _, rfl, he24, .own _, T.kit k 24 hk (by decide), p, _, _, rfl, rfl, hp24, show 24 < sizeLine by decide, ?_⟩
  have s25 := same_mut (o := .lst [V.bl (decide (k = 0)), V.bl (decide (k = 1)), V.bl (decide (k = 2)), V.bl (decide (k = 3)), V.bl (decide (k = 4)), V.bl (decide (k = 5)), V.bl (decide (k = 6)), V.bl (decide (k = 7)), V.bl (decide (k = 8)), V.bl (decide (k = 9)), V.bl (decide (k = 10)), V.bl (decide (k = 11)), V.bl (decide (k = 12)), V.bl (decide (k = 13)), V.bl (decide (k = 14)), V.bl (decide (k = 15)), V.bl (decide (k = 16)), V.bl (decide (k = 17)), V.bl (decide (k = 18)), V.bl (decide (k = 19)), V.bl (decide (k = 20)), V.bl (decide (k = 21)), V.bl (decide (k = 22)), V.bl (decide (k = 23)), V.bl (decide (k = 24))]) s24 np
  have he25 := he.keep s25
  have hp25 : upd H24 p (.lst [V.bl (decide (k = 0)), V.bl (decide (k = 1)), V.bl (decide (k = 2)), V.bl (decide (k = 3)), V.bl (decide (k = 4)), V.bl (decide (k = 5)), V.bl (decide (k = 6)), V.bl (decide (k = 7)), V.bl (decide (k = 8)), V.bl (decide (k = 9)), V.bl (decide (k = 10)), V.bl (decide (k = 11)), V.bl (decide (k = 12)), V.bl (decide (k = 13)), V.bl (decide (k = 14)), V.bl (decide (k = 15)), V.bl (decide (k = 16)), V.bl (decide (k = 17)), V.bl (decide (k = 18)), V.bl (decide (k = 19)), V.bl (decide (k = 20)), V.bl (decide (k = 21)), V.bl (decide (k = 22)), V.bl (decide (k = 23)), V.bl (decide (k = 24))]) p = some (.lst [V.bl (decide (k = 0)), V.bl (decide (k = 1)), V.bl (decide (k = 2)), V.bl (decide (k = 3)), V.bl (decide (k = 4)), V.bl (decide (k = 5)), V.bl (decide (k = 6)), V.bl (decide (k = 7)), V.bl (decide (k = 8)), V.bl (decide (k = 9)), V.bl (decide (k = 10)), V.bl (decide (k = 11)), V.bl (decide (k = 12)), V.bl (decide (k = 13)), V.bl (decide (k = 14)), V.bl (decide (k = 15)), V.bl (decide (k = 16)), V.bl (decide (k = 17)), V.bl (decide (k = 18)), V.bl (decide (k = 19)), V.bl (decide (k = 20)), V.bl (decide (k = 21)), V.bl (decide (k = 22)), V.bl (decide (k = 23)), V.bl (decide (k = 24))]) := upd_same
  refine (show ∀ R : Hp → Prop, R (upd H24 p (.lst [V.bl (decide (k = 0)), V.bl (decide (k = 1)), V.bl (decide (k = 2)), V.bl (decide (k = 3)), V.bl (decide (k = 4)), V.bl (decide (k = 5)), V.bl (decide (k = 6)), V.bl (decide (k = 7)), V.bl (decide (k = 8)), V.bl (decide (k = 9)), V.bl (decide (k = 10)), V.bl (decide (k = 11)), V.bl (decide (k = 12)), V.bl (decide (k = 13)), V.bl (decide (k = 14)), V.bl (decide (k = 15)), V.bl (decide (k = 16)), V.bl (decide (k = 17)), V.bl (decide (k = 18)), V.bl (decide (k = 19)), V.bl (decide (k = 20)), V.bl (decide (k = 21)), V.bl (decide (k = 22)), V.bl (decide (k = 23)), V.bl (decide (k = 24))])) → R _ from fun R r => r) _ ?_
  generalize upd H24 p (.lst [V.bl (decide (k = 0)), V.bl (decide (k = 1)), V.bl (decide (k = 2)), V.bl (decide (k = 3)), V.bl (decide (k = 4)), V.bl (decide (k = 5)), V.bl (decide (k = 6)), V.bl (decide (k = 7)), V.bl (decide (k = 8)), V.bl (decide (k = 9)), V.bl (decide (k = 10)), V.bl (decide (k = 11)), V.bl (decide (k = 12)), V.bl (decide (k = 13)), V.bl (decide (k = 14)), V.bl (decide (k = 15)), V.bl (decide (k = 16)), V.bl (decide (k = 17)), V.bl (decide (k = 18)), V.bl (decide (k = 19)), V.bl (decide (k = 20)), V.bl (decide (k = 21)), V.bl (decide (k = 22)), V.bl (decide (k = 23)), V.bl (decide (k = 24))]) = H25 at s25 he25 hp25 ⊢
  clear s24 he24 hp24
  exact ⟨_, rfl, q p _ s25 hp25⟩

theorem ok_law_right (T : Tx K mg fI c_MadeError c_BadName c_BadRow c_BadThing c_BadForm c_BadSign c_BadRule c_BadText c_BadParts c_BadOthers c_BadCount c_BadBook c_BadFlag c_BadPlace c_BadClaim c_BadWorld c_BadKept c_BadWord c_NoPaper c_BadPlanned c_BadClaims c_Clashes c_TooMany c_TooLong c_Finished c_NothingDone i_Clashes i_Finished i_NothingDone i_TooLong i_TooMany) (D : Dx K mg "_law_right" s_law_right ["kind", "value"]) (C_law_made : Pr P w K mg base 4 "_law_made" ["kind", "value"] (spMade K [c_BadBook, c_BadClaim, c_BadClaims, c_BadCount, c_BadFlag, c_BadForm, c_BadKept, c_BadName, c_BadOthers, c_BadParts, c_BadPlace, c_BadPlanned, c_BadRow, c_BadRule, c_BadSign, c_BadText, c_BadThing, c_BadWord, c_BadWorld, c_NoPaper, c_Clashes, c_Finished, c_NothingDone, c_TooLong, c_TooMany])) (C_law_kinds : Pr P w K mg base 1 "_law_kinds" ["error"] (spKinds K [c_BadBook, c_BadClaim, c_BadClaims, c_BadCount, c_BadFlag, c_BadForm, c_BadKept, c_BadName, c_BadOthers, c_BadParts, c_BadPlace, c_BadPlanned, c_BadRow, c_BadRule, c_BadSign, c_BadText, c_BadThing, c_BadWord, c_BadWorld, c_NoPaper, c_Clashes, c_Finished, c_NothingDone, c_TooLong, c_TooMany])) : PrG P w K mg base 5 "_law_right" ["kind", "value"] (spRight K) := by
  refine D.prG sc_law_right (fun vs H Q E h => ?_) (fun f cdv A outer s H vs Q E hg hr h => ⟨_,
      (pss_cons (ps_set (i := 2) sc_law_right.nd rfl (Or.inl rfl) (pe_callP C_law_made (hr.mono (by decide)) (by rfl) (passes_call (takes_of rfl rfl rfl rfl) fun _ _ _ _ z => z) (pa_cons (pv 0) (pa_cons (pv 1) pa_nil))))
      (pss_cons (ps_set (i := 3) sc_law_right.nd rfl (Or.inl rfl) (pe_callP C_law_kinds (hr.mono (by decide)) (by rfl) (passes_call (takes_of rfl rfl rfl rfl) fun _ _ _ _ z => z) (pa_cons (pv 2) pa_nil)))
      (pss_cons (ps_for (passes_of rfl) rfl (pi_range1 (by rfl) T.n.n_range (pa_cons pe_int pa_nil)) (pg_name (i := 4) sc_law_right.nd rfl (Or.inl rfl))
        (pss_one (ps_if (pt_cmpR op_ne (pe_ix ix_list (pv 3) (pv 4) (fun _ _ => rfl)) (pe_cmpR op_eq (pv 4) (pv 0) (nomark _)) (nomark _))
          (pss_one (ps_ret pe_bl))
          pss_nil)))
      (pss_cons (ps_if (PW.pt (pw_or (pt_not (pt_val (pe_callB call_isV (by rfl) T.n.n_isinstance (by decide +kernel) (pa_cons (pv 2) (pa_cons (pe_glob (v := .ref c_MadeError) rfl T.x_MadeError.g rfl) pa_nil))))) (pw_or1 (pt_not (pt_val (pe_callB call_isV (by rfl) T.n.n_isinstance (by decide +kernel) (pa_cons (pv 2) (pa_cons (pe_ty "ValueError" T.n.n_ValueError) pa_nil))))))))
        (pss_one (ps_ret pe_bl))
        pss_nil)
      (pss_cons (ps_if (pt_cmpR op_ge (pv 0) pe_int (nomark _))
        (pss_one (ps_ret (pe_cmpR op_isN (pe_xv (pv 2)) pe_non (nomark _))))
        pss_nil)
      (pss_one (ps_ret (pe_and (pe_cmpR (op_eqSame hr.units) (pe_xv (pv 2)) (pv 1) (nomark _)) (pe_one (pe_cmpR op_eq (pe_callB (call_repr hg hr.units) (by rfl) T.n.n_repr (by decide +kernel) (pa_cons (pe_xv (pv 2)) pa_nil)) (pe_callB (call_repr hg hr.units) (by rfl) T.n.n_repr (by decide +kernel) (pa_cons (pv 1) pa_nil)) (nomark _))))))))))), ?_⟩)
  · obtain ⟨k, v, d, rfl, _⟩ := h
    rfl
  obtain ⟨k, v, d, rfl, hk, hd, hf, q⟩ := h
  refine ⟨_, rfl, _, rfl, k, v, rfl, hk, fun a H1 s1 e1 => ?_⟩
  refine ⟨_, rfl, a, k, _, rfl, hk, e1, fun p H2 s2 hp => ?_⟩
  have s12 := s1.trans s2
  have e2 := e1.keep s2
  refine ⟨_, rfl, by decide, by decide, for_range (lo := 0) (n := 25) (fun i σ H' => H2 = H' ∧ ∃ y4 : Option V, σ = [some (.int (k : Int)), some v, some (.ref a), some (.ref p), y4]) ⟨rfl, none, rfl⟩ ?_ ?_⟩
  · rintro i σ _ hi ⟨rfl, y4, rfl⟩
    have ei : ((List.range 25).map fun j => V.bl (decide (k = j)))[i]? = some (.bl (decide (k = i))) := by
      rw [List.getElem?_map, List.getElem?_range hi]
      rfl
    refine ⟨_, rfl, _, rfl, p, _, 0 + (i : Int), .bl (decide (k = i)), rfl, rfl, SqL.of hp, by rw [Int.zero_add]; exact atI_nat ei, _, rfl, _, rfl, rfl, rfl, _, rfl, ?_⟩
    have ed : decide (V.int (0 + (i : Int)) = V.int (k : Int)) = decide (k = i) := by
      by_cases c : k = i
      · rw [decide_eq_true c, decide_eq_true (by rw [c, Int.zero_add])]
      · rw [decide_eq_false c, decide_eq_false fun z => c (by have y := V.int.inj z; omega)]
    rw [ed, show (!decide (V.bl (decide (k = i)) = V.bl (decide (k = i)))) = false by simp]
    exact iteF ⟨rfl, _, rfl⟩
  rintro σ _ ⟨rfl, y4, rfl⟩
  refine ⟨_, rfl, a, _, _, _, _, _, rfl, e2, .own _, T.kitM k hk, _, rfl, ?_⟩
  refine iteF ⟨_, rfl, a, _, _, _, _, _, rfl, e2, .ty "ValueError", T.kitV k hk, _, rfl, ?_⟩
  refine iteF ?_
  refine ⟨_, rfl, _, _, rfl, rfl, _, rfl, ?_⟩
  by_cases c : k < 20
  · rw [show decide ((20 : Int) ≤ (k : Int)) = false from decide_eq_false (by omega)]
    rw [if_pos c] at e2
    refine iteF ?_
    have hd2 := hd.keep s12 d v
    refine ⟨_, rfl, a, _, _, rfl, rfl, e2, _, rfl, d, rfl, hd2, _, rfl, iteT ?_⟩
    refine ⟨_, rfl, a, _, _, rfl, rfl, e2, v, d, rfl, hd2, hf.show', Nat.le_trans hf.len (by decide), Nat.le_trans hf.dep (by decide), ?_⟩
    refine ⟨_, rfl, v, d, rfl, hd2, hf.show', Nat.le_trans hf.len (by decide), Nat.le_trans hf.dep (by decide), rfl, ?_⟩
    rw [decide_eq_true rfl]
    exact q _ s12
  · rw [show decide ((20 : Int) ≤ (k : Int)) = true from decide_eq_true (by omega)]
    rw [if_neg c] at e2
    refine iteT ?_
    refine ⟨_, rfl, a, _, _, rfl, rfl, e2, ?_⟩
    refine ⟨rfl, ?_⟩
    rw [decide_eq_true rfl]
    exact q _ s12

def spLaw (K : PySem.W.Frag) : Sp := fun vs H Q _ => ∃ (a : Addr) (ns : List Int), vs = [.ref a] ∧ SqL K H a (ns.map V.int) ∧ ns.length ≤ 63 ∧ ∀ H', Q (.bl true) H'
theorem ok_law {f : Addr} {fd : FuncData} (T : Tx K mg fI c_MadeError c_BadName c_BadRow c_BadThing c_BadForm c_BadSign c_BadRule c_BadText c_BadParts c_BadOthers c_BadCount c_BadBook c_BadFlag c_BadPlace c_BadClaim c_BadWorld c_BadKept c_BadWord c_NoPaper c_BadPlanned c_BadClaims c_Clashes c_TooMany c_TooLong c_Finished c_NothingDone i_Clashes i_Finished i_NothingDone i_TooLong i_TooMany) (F : Fun K "law" "law" s_law f fd) (C_law_tape : Pr P w K mg base 1 "_law_tape" ["script"] (spTape K)) (C_law_pick : Pr P w K mg base 1 "_law_pick" ["tape", "size"] spPick) (C_law_odd : Pr P w K mg base 2 "_law_odd" ["tape"] (spOdd K)) (C_law_right : PrG P w K mg base 5 "_law_right" ["kind", "value"] (spRight K)) : FnG P w K mg base 6 f fd ["script"] (spLaw K) := by
  refine fun_okG F sc_law (fun vs H Q E h => ?_) (fun cdv A outer s H vs Q E hg hr h => ⟨_,
      (pss_cons (ps_set (i := 1) sc_law.nd rfl (Or.inl rfl) (pe_callP C_law_tape (hr.mono (by decide)) (by rfl) (passes_call (takes_of rfl rfl rfl rfl) fun _ _ _ _ z => z) (pa_cons (pv 0) pa_nil)))
      (pss_cons (ps_set (i := 2) sc_law.nd rfl (Or.inl rfl) (pe_callP C_law_pick (hr.mono (by decide)) (by rfl) (passes_call (takes_of rfl rfl rfl rfl) fun _ _ _ _ z => z) (pa_cons (pv 1) (pa_cons pe_int pa_nil))))
      (pss_cons (ps_set (i := 3) sc_law.nd rfl (Or.inl rfl) (pe_callP C_law_pick (hr.mono (by decide)) (by rfl) (passes_call (takes_of rfl rfl rfl rfl) fun _ _ _ _ z => z) (pa_cons (pv 1) (pa_cons pe_int pa_nil))))
      (pss_cons (ps_set (i := 4) sc_law.nd rfl (Or.inl rfl) (pe_callP C_law_odd (hr.mono (by decide)) (by rfl) (passes_call (takes_of rfl rfl rfl rfl) fun _ _ _ _ z => z) (pa_cons (pv 1) pa_nil)))
      (Evl.pss_cut (ps_if (PW.pt (pw_and (pt_cmpR op_eq (pe_callP C_law_pick (hr.mono (by decide)) (by rfl) (passes_call (takes_of rfl rfl rfl rfl) fun _ _ _ _ z => z) (pa_cons (pv 1) (pa_cons pe_int pa_nil))) pe_int (nomark _)) (pw_and1 (pt_cmpR op_gt (pe_callB call_len (by rfl) T.n.n_len (by decide +kernel) (pa_cons (pv 0) pa_nil)) pe_int (nomark _)))))
        (pss_one (ps_set (i := 4) sc_law.nd rfl (Or.inl rfl) (pe_op op_mod (pe_callTy call_int1 (by rfl) T.n.n_int (by decide +kernel) (pa_cons (pe_ix ix_list (pv 0) (pe_un un_neg pe_int) (fun _ _ => rfl)) pa_nil)) (pe_op op_pow pe_int pe_int))))
        pss_nil)
      (pss_cons (ps_set (i := 5) sc_law.nd rfl (Or.inl rfl) (pe_callP C_law_odd (hr.mono (by decide)) (by rfl) (passes_call (takes_of rfl rfl rfl rfl) fun _ _ _ _ z => z) (pa_cons (pv 1) pa_nil)))
      (pss_cons (ps_if (PW.pt (pw_or (pt_not (pt_val (pe_callG C_law_right hg (hr.mono (by decide)) (by rfl) (passes_call (takes_of rfl rfl rfl rfl) fun _ _ _ _ z => z) (pa_cons (pv 2) (pa_cons (pv 4) pa_nil))))) (pw_or1 (pt_not (pt_val (pe_callG C_law_right hg (hr.mono (by decide)) (by rfl) (passes_call (takes_of rfl rfl rfl rfl) fun _ _ _ _ z => z) (pa_cons (pv 3) (pa_cons (pv 5) pa_nil))))))))
        (pss_one (ps_ret pe_bl))
        pss_nil)
      (pss_one (ps_ret (pe_and (pe_callG C_law_right hg (hr.mono (by decide)) (by rfl) (passes_call (takes_of rfl rfl rfl rfl) fun _ _ _ _ z => z) (pa_cons (pv 2) (pa_cons (pv 5) pa_nil))) (pe_one (pe_callG C_law_right hg (hr.mono (by decide)) (by rfl) (passes_call (takes_of rfl rfl rfl rfl) fun _ _ _ _ z => z) (pa_cons (pv 3) (pa_cons (pv 4) pa_nil)))))))))))))), ?_⟩)
  · obtain ⟨a, ns, rfl, _⟩ := h
    rfl
  obtain ⟨a, ns, rfl, hS, hl, q⟩ := h
  refine ⟨_, rfl, a, ns, rfl, hS, hl, fun t c H1 nt s1 T1 => ?_⟩
  have sO : Same H (off t H1) := fun b o e => by
    rw [off_ne (ne_of_none e nt)]
    exact s1 b o e
  have hS1 := same_l sO hS
  refine ⟨_, rfl, t, c, 25, rfl, by decide, by decide, T1, fun first H2 p0 p1 g2 => ?_⟩
  refine ⟨_, rfl, t, c, 25, rfl, by decide, by decide, g2.tape, fun second H3 q0 q1 g3 => ?_⟩
  refine ⟨_, rfl, t, c, rfl, g3.tape, fun v d H4 od hd g4 => ?_⟩
  have hS4 := same_l ((g2.off.trans g3.off).trans g4.off) hS1
  have hd4 := hd.keep (newer_off g3.tape.ne) d v
  refine ⟨fun σ' H' => ∃ (v : V) (d : PyData), σ' = [some (.ref a), some (.ref t), some (.int first), some (.int second), some v, none] ∧ TapeAt H' t c ∧ Da K (off t H') v d ∧ Fn d 5000 3, ?_, ?_⟩
  · refine ⟨_, rfl, t, c, 3, rfl, by decide, by decide, g4.tape, fun e H5 e0 e1 g5 => ⟨rfl, _, rfl, ?_⟩⟩
    have els : ∃ (v' : V) (d : PyData), ([some (.ref a), some (.ref t), some (.int first), some (.int second), some v, none] : List (Option V)) = [some (.ref a), some (.ref t), some (.int first), some (.int second), some v', none] ∧ TapeAt H5 t c ∧ Da K (off t H5) v' d ∧ Fn d 5000 3 :=
      ⟨v, d, rfl, g5.tape, hd4.go g5, od.1.le (by decide) (by decide)⟩
    have hS5 := same_l (off_le (t := t)) (same_l g5.off hS4)
    refine ite2 (fun _ => ?_) (fun _ => iteF els)
    refine ⟨_, rfl, _, (ns.map V.int).length, rfl, .inl ⟨_, hS5, rfl⟩, _, _, rfl, rfl, _, rfl, ?_⟩
    refine ite2 (fun hlt => ?_) (fun _ => els)
    obtain ⟨ys, z, ez⟩ : ∃ ys z, ns = ys ++ [z] := by
      rcases List.eq_nil_or_concat ns with e | ⟨ys, z, e⟩
      · rw [e] at hlt
        simp at hlt
      · exact ⟨ys, z, by rw [e, List.concat_eq_append]⟩
    have at1 : atI (ns.map V.int) (-1) = some (.int z) := by
      rw [ez, List.map_append]
      exact atI_last _ _
    refine ⟨_, rfl, _, rfl, a, _, -1, .int z, rfl, rfl, hS5, at1, .inl ⟨z, rfl, _, _, rfl, rfl, ⟨by decide, by decide, by decide⟩, _, _, rfl, rfl, (by decide : (0 : Int) < 10 ^ (40 : Int).toNat), ?_⟩⟩
    have hz : (z % 10 ^ (40 : Int).toNat).natAbs < 10 ^ 45 := by
      have b0 : 0 ≤ z % 10 ^ (40 : Int).toNat := Int.emod_nonneg _ (by decide)
      have b1 : z % 10 ^ (40 : Int).toNat < 10 ^ (40 : Int).toNat := Int.emod_lt_of_pos _ (by decide)
      have e1 : (10 : Int) ^ (40 : Int).toNat = 10000000000000000000000000000000000000000 := by decide
      have e2 : (10 : Nat) ^ 45 = 1000000000000000000000000000000000000000000000 := by decide
      rw [e1] at b0 b1 ⊢
      omega
    exact ⟨_, _, rfl, g5.tape, .int _, (Fn.int hz).le (by decide) (by decide)⟩
  rintro σ' H6 ⟨v, d, rfl, T6, hd, hf⟩
  refine ⟨_, rfl, t, c, rfl, T6, fun vo dq H7 ho hdo g7 => ?_⟩
  have h1 := (hd.go g7).on
  have h2 := hdo.keep newer_le dq vo
  have hf2 : Fn dq 5000 3 := ho.1.le (by decide) (by decide)
  obtain ⟨i, rfl⟩ := Int.eq_ofNat_of_zero_le p0
  obtain ⟨j, rfl⟩ := Int.eq_ofNat_of_zero_le q0
  have hi : i < 25 := by omega
  have hj : j < 25 := by omega
  refine ⟨_, rfl, _, rfl, i, v, d, rfl, hi, h1, hf, fun H8 s8 => ⟨_, rfl, ?_⟩⟩
  refine iteF ⟨_, rfl, _, rfl, j, vo, dq, rfl, hj, h2.keep s8 _ _, hf2, fun H9 s9 => ⟨_, rfl, ?_⟩⟩
  have s89 := s8.trans s9
  refine iteF ⟨_, rfl, _, rfl, i, vo, dq, rfl, hi, h2.keep s89 _ _, hf2, fun H10 s10 => ⟨_, rfl, iteT ?_⟩⟩
  exact ⟨_, rfl, _, rfl, j, v, d, rfl, hj, h1.keep (s89.trans s10) _ _, hf, fun H11 _ => q H11⟩
end
abbrev s_init : Stmt := inClass (top 1) 0
theorem sc_init : FnScope ["self", "value"] ["self", "value"] (defScope s_init) := ⟨rfl, rfl, rfl, by decide +kernel, rfl, by decide +kernel, by decide +kernel⟩
section
variable {P : Program} {w : World} {K : PySem.W.Frag} {mg : Str → Option Value} {base : Heap}
theorem ok_init {f : Addr} {fd : FuncData} (F : Fun K "__init__" "MadeError.__init__" s_init f fd) : FnOk P w K mg base (L2.CX P w) 1 f fd ["self", "value"] (spInit K) := by
  refine F.okX sc_init (fun vs H Q E h => ?_) (fun cdv A outer s H vs Q E hr h => ⟨_, (pss_one (ps_ost (pv 0) (pv 1))), ?_⟩)
  · obtain ⟨a, C, v, rfl, _⟩ := h
    rfl
  · obtain ⟨a, C, v, rfl, oC, vC, ha, q⟩ := h
    exact ⟨_, rfl, _, rfl, a, C, rfl, oC, vC, .inl ⟨ha, fun dx nx ne => q dx nx ne⟩⟩
end
abbrev s_init_Clashes : Stmt := inClass (top 22) 0
theorem sc_init_Clashes : FnScope ["self"] ["self"] (defScope s_init_Clashes) := ⟨rfl, rfl, rfl, by decide +kernel, rfl, by decide +kernel, by decide +kernel⟩
theorem ok_init_Clashes {P : Program} {w : World} {K : PySem.W.Frag} {mg : Str → Option Value} {base : Heap} {f fI M : Addr} {fd fdI : FuncData} (F : Fun K "__init__" "Clashes.__init__" s_init_Clashes f fd) (r : ClX.CRead K M (.type "type"))
    (at_ : PySem.W.findCls K (.ref M) (.type "type") "__init__" = some (.val (.ref fI))) (F1 : FnOk P w K mg base (L2.CX P w) 1 fI fdI ["self", "value"] (spInit K)) (hk : PySem.W.keepIn K (.ref fI) = true) (hb : Binds K fdI ["self", "value"] []) (hm : mg "MadeError" = some (.ref M)) :
    FnOk P w K mg base (L2.CX P w) 2 f fd ["self"] (spInit0 K) := by
  refine F.okX sc_init_Clashes (fun vs H Q E h => ?_) (fun cdv A outer s H vs Q E hr h => ⟨_,
      (pss_one (ps_expr (pe_clsfn (E := fun _ _ _ => False) r at_ F1 (hr.mono (by decide)) hk hb (passes_call (takes_of rfl rfl rfl rfl) fun _ _ _ _ z => z.elim) (by rfl) hm (pa_cons (pv 0) (pa_cons pe_non pa_nil))))), ?_⟩)
  · obtain ⟨a, C, rfl, _⟩ := h
    rfl
  · obtain ⟨a, C, rfl, oC, vC, ha, q⟩ := h
    exact ⟨_, rfl, a, C, .non, rfl, oC, vC, ha, fun dx nx ne => q dx nx ne⟩
abbrev s_init_Finished : Stmt := inClass (top 25) 0
theorem sc_init_Finished : FnScope ["self"] ["self"] (defScope s_init_Finished) := ⟨rfl, rfl, rfl, by decide +kernel, rfl, by decide +kernel, by decide +kernel⟩
theorem ok_init_Finished {P : Program} {w : World} {K : PySem.W.Frag} {mg : Str → Option Value} {base : Heap} {f fI M : Addr} {fd fdI : FuncData} (F : Fun K "__init__" "Finished.__init__" s_init_Finished f fd) (r : ClX.CRead K M (.type "type"))
    (at_ : PySem.W.findCls K (.ref M) (.type "type") "__init__" = some (.val (.ref fI))) (F1 : FnOk P w K mg base (L2.CX P w) 1 fI fdI ["self", "value"] (spInit K)) (hk : PySem.W.keepIn K (.ref fI) = true) (hb : Binds K fdI ["self", "value"] []) (hm : mg "MadeError" = some (.ref M)) :
    FnOk P w K mg base (L2.CX P w) 2 f fd ["self"] (spInit0 K) := by
  refine F.okX sc_init_Finished (fun vs H Q E h => ?_) (fun cdv A outer s H vs Q E hr h => ⟨_,
      (pss_one (ps_expr (pe_clsfn (E := fun _ _ _ => False) r at_ F1 (hr.mono (by decide)) hk hb (passes_call (takes_of rfl rfl rfl rfl) fun _ _ _ _ z => z.elim) (by rfl) hm (pa_cons (pv 0) (pa_cons pe_non pa_nil))))), ?_⟩)
  · obtain ⟨a, C, rfl, _⟩ := h
    rfl
  · obtain ⟨a, C, rfl, oC, vC, ha, q⟩ := h
    exact ⟨_, rfl, a, C, .non, rfl, oC, vC, ha, fun dx nx ne => q dx nx ne⟩
abbrev s_init_NothingDone : Stmt := inClass (top 26) 0
theorem sc_init_NothingDone : FnScope ["self"] ["self"] (defScope s_init_NothingDone) := ⟨rfl, rfl, rfl, by decide +kernel, rfl, by decide +kernel, by decide +kernel⟩
theorem ok_init_NothingDone {P : Program} {w : World} {K : PySem.W.Frag} {mg : Str → Option Value} {base : Heap} {f fI M : Addr} {fd fdI : FuncData} (F : Fun K "__init__" "NothingDone.__init__" s_init_NothingDone f fd) (r : ClX.CRead K M (.type "type"))
    (at_ : PySem.W.findCls K (.ref M) (.type "type") "__init__" = some (.val (.ref fI))) (F1 : FnOk P w K mg base (L2.CX P w) 1 fI fdI ["self", "value"] (spInit K)) (hk : PySem.W.keepIn K (.ref fI) = true) (hb : Binds K fdI ["self", "value"] []) (hm : mg "MadeError" = some (.ref M)) :
    FnOk P w K mg base (L2.CX P w) 2 f fd ["self"] (spInit0 K) := by
  refine F.okX sc_init_NothingDone (fun vs H Q E h => ?_) (fun cdv A outer s H vs Q E hr h => ⟨_,
      (pss_one (ps_expr (pe_clsfn (E := fun _ _ _ => False) r at_ F1 (hr.mono (by decide)) hk hb (passes_call (takes_of rfl rfl rfl rfl) fun _ _ _ _ z => z.elim) (by rfl) hm (pa_cons (pv 0) (pa_cons pe_non pa_nil))))), ?_⟩)
  · obtain ⟨a, C, rfl, _⟩ := h
    rfl
  · obtain ⟨a, C, rfl, oC, vC, ha, q⟩ := h
    exact ⟨_, rfl, a, C, .non, rfl, oC, vC, ha, fun dx nx ne => q dx nx ne⟩
abbrev s_init_TooLong : Stmt := inClass (top 24) 0
theorem sc_init_TooLong : FnScope ["self"] ["self"] (defScope s_init_TooLong) := ⟨rfl, rfl, rfl, by decide +kernel, rfl, by decide +kernel, by decide +kernel⟩
theorem ok_init_TooLong {P : Program} {w : World} {K : PySem.W.Frag} {mg : Str → Option Value} {base : Heap} {f fI M : Addr} {fd fdI : FuncData} (F : Fun K "__init__" "TooLong.__init__" s_init_TooLong f fd) (r : ClX.CRead K M (.type "type"))
    (at_ : PySem.W.findCls K (.ref M) (.type "type") "__init__" = some (.val (.ref fI))) (F1 : FnOk P w K mg base (L2.CX P w) 1 fI fdI ["self", "value"] (spInit K)) (hk : PySem.W.keepIn K (.ref fI) = true) (hb : Binds K fdI ["self", "value"] []) (hm : mg "MadeError" = some (.ref M)) :
    FnOk P w K mg base (L2.CX P w) 2 f fd ["self"] (spInit0 K) := by
  refine F.okX sc_init_TooLong (fun vs H Q E h => ?_) (fun cdv A outer s H vs Q E hr h => ⟨_,
      (pss_one (ps_expr (pe_clsfn (E := fun _ _ _ => False) r at_ F1 (hr.mono (by decide)) hk hb (passes_call (takes_of rfl rfl rfl rfl) fun _ _ _ _ z => z.elim) (by rfl) hm (pa_cons (pv 0) (pa_cons pe_non pa_nil))))), ?_⟩)
  · obtain ⟨a, C, rfl, _⟩ := h
    rfl
  · obtain ⟨a, C, rfl, oC, vC, ha, q⟩ := h
    exact ⟨_, rfl, a, C, .non, rfl, oC, vC, ha, fun dx nx ne => q dx nx ne⟩
abbrev s_init_TooMany : Stmt := inClass (top 23) 0
theorem sc_init_TooMany : FnScope ["self"] ["self"] (defScope s_init_TooMany) := ⟨rfl, rfl, rfl, by decide +kernel, rfl, by decide +kernel, by decide +kernel⟩
theorem ok_init_TooMany {P : Program} {w : World} {K : PySem.W.Frag} {mg : Str → Option Value} {base : Heap} {f fI M : Addr} {fd fdI : FuncData} (F : Fun K "__init__" "TooMany.__init__" s_init_TooMany f fd) (r : ClX.CRead K M (.type "type"))
    (at_ : PySem.W.findCls K (.ref M) (.type "type") "__init__" = some (.val (.ref fI))) (F1 : FnOk P w K mg base (L2.CX P w) 1 fI fdI ["self", "value"] (spInit K)) (hk : PySem.W.keepIn K (.ref fI) = true) (hb : Binds K fdI ["self", "value"] []) (hm : mg "MadeError" = some (.ref M)) :
    FnOk P w K mg base (L2.CX P w) 2 f fd ["self"] (spInit0 K) := by
  refine F.okX sc_init_TooMany (fun vs H Q E h => ?_) (fun cdv A outer s H vs Q E hr h => ⟨_,
      (pss_one (ps_expr (pe_clsfn (E := fun _ _ _ => False) r at_ F1 (hr.mono (by decide)) hk hb (passes_call (takes_of rfl rfl rfl rfl) fun _ _ _ _ z => z.elim) (by rfl) hm (pa_cons (pv 0) (pa_cons pe_non pa_nil))))), ?_⟩)
  · obtain ⟨a, C, rfl, _⟩ := h
    rfl
  · obtain ⟨a, C, rfl, oC, vC, ha, q⟩ := h
    exact ⟨_, rfl, a, C, .non, rfl, oC, vC, ha, fun dx nx ne => q dx nx ne⟩
theorem all_mk {l : PySem.W.OpenLaw} {w : World} {K : PySem.W.Frag} {h : Heap} {mg : Str → Option Value} {fa : Addr} (X : K.In h) (G : h.Ns mainGlobals mg) (hfa : mg "law" = some (.ref fa))
    {C_MadeError : Addr} {nm_MadeError : _} {q_MadeError : _} {N_MadeError : _} {bs_MadeError : _} {bm_MadeError : _} {sn_MadeError : _} {sub_MadeError : _} {ab_MadeError : _} {col_MadeError : _} {dd_MadeError : _} {k0_MadeError : _} {k1_MadeError : _} {k2_MadeError : _} {k3_MadeError : _} {k5_MadeError : _}
    (a_MadeError : PySem.W.nsIn K mainGlobals "MadeError" = some (some (.ref C_MadeError)))
    (l_MadeError : K.lookup C_MadeError = some (excClassObj nm_MadeError q_MadeError C_MadeError N_MadeError bs_MadeError bm_MadeError true sn_MadeError sub_MadeError ab_MadeError col_MadeError dd_MadeError k0_MadeError k1_MadeError k2_MadeError k3_MadeError k5_MadeError "ValueError.__new__")) (r_MadeError : PySem.HandSPX.refsVE bm_MadeError = true)
    (sa_MadeError : PySem.W.findIn K (.ref C_MadeError) "__setattr__" = some (some (.builtin "object.__setattr__"))) (ex_MadeError : PySem.W.subIn K (.ref C_MadeError) (.type "BaseException") = some true)
    (ty_MadeError : PySem.W.typeIn K (.ref C_MadeError) = some (.type "type")) (k_MadeError : PySem.W.keepIn K (.ref C_MadeError) = true)
    {f_init : Addr} {oc_init kV_init dc_init pm_init cd_init ct_init : Value} {od_init an_init : Option Addr} {sl_init : Array (Option Value)}
    (l_init : K.lookup f_init = some ⟨oc_init, od_init, .func (PySem.W.fnOf "__init__" "MadeError.__init__" (defArgs s_init) (defBody s_init) (defScope s_init) .none kV_init dc_init pm_init an_init cd_init ct_init), sl_init⟩)
    (c_init : PySem.W.codeIn K cd_init "MadeError.__init__" = true) (k_init : PySem.W.keepIn K (.ref f_init) = true)
    (t_init : PySem.W.typeIn K (.ref f_init) = some (.type "function"))
    (i_MadeError : PySem.W.findIn K (.ref C_MadeError) "__init__" = some (some (.ref f_init))) (v_MadeError : PySem.W.findIn K (.ref C_MadeError) "value" = some none)
    (ga_MadeError : PySem.W.findIn K (.ref C_MadeError) "__getattribute__" = some (some (.builtin "BaseException.__getattribute__")))
    (gg_MadeError : PySem.W.findIn K (.ref C_MadeError) "__getattr__" = some none)
    (hd_MadeError : PySem.W.hasDictIn K C_MadeError = true)
    (cl_MadeError : PySem.W.isClsIn K C_MadeError = true)
    (hc_MadeError : PySem.W.findIn K (.ref C_MadeError) "__class__" = some (some (.builtin "object.__class__")))
    (hn_MadeError : PySem.W.specialIn K (.builtin "object.__class__") "__get__" = some (some (.builtin "getset_descriptor.__get__")))
    (ht_MadeError : PySem.W.takesIn K (.builtin "object.__class__") = some true)
    (hm_MadeError : PySem.W.mroIn K C_MadeError (.type "object") = some true)
    {C_BadName : Addr} {nm_BadName : _} {q_BadName : _} {N_BadName : _} {bs_BadName : _} {bm_BadName : _} {sn_BadName : _} {sub_BadName : _} {ab_BadName : _} {col_BadName : _} {dd_BadName : _} {k0_BadName : _} {k1_BadName : _} {k2_BadName : _} {k3_BadName : _} {k5_BadName : _}
    (a_BadName : PySem.W.nsIn K mainGlobals "BadName" = some (some (.ref C_BadName)))
    (l_BadName : K.lookup C_BadName = some (excClassObj nm_BadName q_BadName C_BadName N_BadName bs_BadName bm_BadName true sn_BadName sub_BadName ab_BadName col_BadName dd_BadName k0_BadName k1_BadName k2_BadName k3_BadName k5_BadName "ValueError.__new__")) (r_BadName : PySem.HandSPX.refsVE bm_BadName = true)
    (sa_BadName : PySem.W.findIn K (.ref C_BadName) "__setattr__" = some (some (.builtin "object.__setattr__"))) (ex_BadName : PySem.W.subIn K (.ref C_BadName) (.type "BaseException") = some true)
    (ty_BadName : PySem.W.typeIn K (.ref C_BadName) = some (.type "type")) (k_BadName : PySem.W.keepIn K (.ref C_BadName) = true)
    (i_BadName : PySem.W.findIn K (.ref C_BadName) "__init__" = some (some (.ref f_init))) (v_BadName : PySem.W.findIn K (.ref C_BadName) "value" = some none)
    (ga_BadName : PySem.W.findIn K (.ref C_BadName) "__getattribute__" = some (some (.builtin "BaseException.__getattribute__")))
    (gg_BadName : PySem.W.findIn K (.ref C_BadName) "__getattr__" = some none)
    (hd_BadName : PySem.W.hasDictIn K C_BadName = true)
    (cl_BadName : PySem.W.isClsIn K C_BadName = true)
    (hc_BadName : PySem.W.findIn K (.ref C_BadName) "__class__" = some (some (.builtin "object.__class__")))
    (hn_BadName : PySem.W.specialIn K (.builtin "object.__class__") "__get__" = some (some (.builtin "getset_descriptor.__get__")))
    (ht_BadName : PySem.W.takesIn K (.builtin "object.__class__") = some true)
    (hm_BadName : PySem.W.mroIn K C_BadName (.type "object") = some true)
    {C_BadRow : Addr} {nm_BadRow : _} {q_BadRow : _} {N_BadRow : _} {bs_BadRow : _} {bm_BadRow : _} {sn_BadRow : _} {sub_BadRow : _} {ab_BadRow : _} {col_BadRow : _} {dd_BadRow : _} {k0_BadRow : _} {k1_BadRow : _} {k2_BadRow : _} {k3_BadRow : _} {k5_BadRow : _}
    (a_BadRow : PySem.W.nsIn K mainGlobals "BadRow" = some (some (.ref C_BadRow)))
    (l_BadRow : K.lookup C_BadRow = some (excClassObj nm_BadRow q_BadRow C_BadRow N_BadRow bs_BadRow bm_BadRow true sn_BadRow sub_BadRow ab_BadRow col_BadRow dd_BadRow k0_BadRow k1_BadRow k2_BadRow k3_BadRow k5_BadRow "ValueError.__new__")) (r_BadRow : PySem.HandSPX.refsVE bm_BadRow = true)
    (sa_BadRow : PySem.W.findIn K (.ref C_BadRow) "__setattr__" = some (some (.builtin "object.__setattr__"))) (ex_BadRow : PySem.W.subIn K (.ref C_BadRow) (.type "BaseException") = some true)
    (ty_BadRow : PySem.W.typeIn K (.ref C_BadRow) = some (.type "type")) (k_BadRow : PySem.W.keepIn K (.ref C_BadRow) = true)
    (i_BadRow : PySem.W.findIn K (.ref C_BadRow) "__init__" = some (some (.ref f_init))) (v_BadRow : PySem.W.findIn K (.ref C_BadRow) "value" = some none)
    (ga_BadRow : PySem.W.findIn K (.ref C_BadRow) "__getattribute__" = some (some (.builtin "BaseException.__getattribute__")))
    (gg_BadRow : PySem.W.findIn K (.ref C_BadRow) "__getattr__" = some none)
    (hd_BadRow : PySem.W.hasDictIn K C_BadRow = true)
    (cl_BadRow : PySem.W.isClsIn K C_BadRow = true)
    (hc_BadRow : PySem.W.findIn K (.ref C_BadRow) "__class__" = some (some (.builtin "object.__class__")))
    (hn_BadRow : PySem.W.specialIn K (.builtin "object.__class__") "__get__" = some (some (.builtin "getset_descriptor.__get__")))
    (ht_BadRow : PySem.W.takesIn K (.builtin "object.__class__") = some true)
    (hm_BadRow : PySem.W.mroIn K C_BadRow (.type "object") = some true)
    {C_BadThing : Addr} {nm_BadThing : _} {q_BadThing : _} {N_BadThing : _} {bs_BadThing : _} {bm_BadThing : _} {sn_BadThing : _} {sub_BadThing : _} {ab_BadThing : _} {col_BadThing : _} {dd_BadThing : _} {k0_BadThing : _} {k1_BadThing : _} {k2_BadThing : _} {k3_BadThing : _} {k5_BadThing : _}
    (a_BadThing : PySem.W.nsIn K mainGlobals "BadThing" = some (some (.ref C_BadThing)))
    (l_BadThing : K.lookup C_BadThing = some (excClassObj nm_BadThing q_BadThing C_BadThing N_BadThing bs_BadThing bm_BadThing true sn_BadThing sub_BadThing ab_BadThing col_BadThing dd_BadThing k0_BadThing k1_BadThing k2_BadThing k3_BadThing k5_BadThing "ValueError.__new__")) (r_BadThing : PySem.HandSPX.refsVE bm_BadThing = true)
    (sa_BadThing : PySem.W.findIn K (.ref C_BadThing) "__setattr__" = some (some (.builtin "object.__setattr__"))) (ex_BadThing : PySem.W.subIn K (.ref C_BadThing) (.type "BaseException") = some true)
    (ty_BadThing : PySem.W.typeIn K (.ref C_BadThing) = some (.type "type")) (k_BadThing : PySem.W.keepIn K (.ref C_BadThing) = true)
    (i_BadThing : PySem.W.findIn K (.ref C_BadThing) "__init__" = some (some (.ref f_init))) (v_BadThing : PySem.W.findIn K (.ref C_BadThing) "value" = some none)
    (ga_BadThing : PySem.W.findIn K (.ref C_BadThing) "__getattribute__" = some (some (.builtin "BaseException.__getattribute__")))
    (gg_BadThing : PySem.W.findIn K (.ref C_BadThing) "__getattr__" = some none)
    (hd_BadThing : PySem.W.hasDictIn K C_BadThing = true)
    (cl_BadThing : PySem.W.isClsIn K C_BadThing = true)
    (hc_BadThing : PySem.W.findIn K (.ref C_BadThing) "__class__" = some (some (.builtin "object.__class__")))
    (hn_BadThing : PySem.W.specialIn K (.builtin "object.__class__") "__get__" = some (some (.builtin "getset_descriptor.__get__")))
    (ht_BadThing : PySem.W.takesIn K (.builtin "object.__class__") = some true)
    (hm_BadThing : PySem.W.mroIn K C_BadThing (.type "object") = some true)
    {C_BadForm : Addr} {nm_BadForm : _} {q_BadForm : _} {N_BadForm : _} {bs_BadForm : _} {bm_BadForm : _} {sn_BadForm : _} {sub_BadForm : _} {ab_BadForm : _} {col_BadForm : _} {dd_BadForm : _} {k0_BadForm : _} {k1_BadForm : _} {k2_BadForm : _} {k3_BadForm : _} {k5_BadForm : _}
    (a_BadForm : PySem.W.nsIn K mainGlobals "BadForm" = some (some (.ref C_BadForm)))
    (l_BadForm : K.lookup C_BadForm = some (excClassObj nm_BadForm q_BadForm C_BadForm N_BadForm bs_BadForm bm_BadForm true sn_BadForm sub_BadForm ab_BadForm col_BadForm dd_BadForm k0_BadForm k1_BadForm k2_BadForm k3_BadForm k5_BadForm "ValueError.__new__")) (r_BadForm : PySem.HandSPX.refsVE bm_BadForm = true)
    (sa_BadForm : PySem.W.findIn K (.ref C_BadForm) "__setattr__" = some (some (.builtin "object.__setattr__"))) (ex_BadForm : PySem.W.subIn K (.ref C_BadForm) (.type "BaseException") = some true)
    (ty_BadForm : PySem.W.typeIn K (.ref C_BadForm) = some (.type "type")) (k_BadForm : PySem.W.keepIn K (.ref C_BadForm) = true)
    (i_BadForm : PySem.W.findIn K (.ref C_BadForm) "__init__" = some (some (.ref f_init))) (v_BadForm : PySem.W.findIn K (.ref C_BadForm) "value" = some none)
    (ga_BadForm : PySem.W.findIn K (.ref C_BadForm) "__getattribute__" = some (some (.builtin "BaseException.__getattribute__")))
    (gg_BadForm : PySem.W.findIn K (.ref C_BadForm) "__getattr__" = some none)
    (hd_BadForm : PySem.W.hasDictIn K C_BadForm = true)
    (cl_BadForm : PySem.W.isClsIn K C_BadForm = true)
    (hc_BadForm : PySem.W.findIn K (.ref C_BadForm) "__class__" = some (some (.builtin "object.__class__")))
    (hn_BadForm : PySem.W.specialIn K (.builtin "object.__class__") "__get__" = some (some (.builtin "getset_descriptor.__get__")))
    (ht_BadForm : PySem.W.takesIn K (.builtin "object.__class__") = some true)
    (hm_BadForm : PySem.W.mroIn K C_BadForm (.type "object") = some true)
    {C_BadSign : Addr} {nm_BadSign : _} {q_BadSign : _} {N_BadSign : _} {bs_BadSign : _} {bm_BadSign : _} {sn_BadSign : _} {sub_BadSign : _} {ab_BadSign : _} {col_BadSign : _} {dd_BadSign : _} {k0_BadSign : _} {k1_BadSign : _} {k2_BadSign : _} {k3_BadSign : _} {k5_BadSign : _}
    (a_BadSign : PySem.W.nsIn K mainGlobals "BadSign" = some (some (.ref C_BadSign)))
    (l_BadSign : K.lookup C_BadSign = some (excClassObj nm_BadSign q_BadSign C_BadSign N_BadSign bs_BadSign bm_BadSign true sn_BadSign sub_BadSign ab_BadSign col_BadSign dd_BadSign k0_BadSign k1_BadSign k2_BadSign k3_BadSign k5_BadSign "ValueError.__new__")) (r_BadSign : PySem.HandSPX.refsVE bm_BadSign = true)
    (sa_BadSign : PySem.W.findIn K (.ref C_BadSign) "__setattr__" = some (some (.builtin "object.__setattr__"))) (ex_BadSign : PySem.W.subIn K (.ref C_BadSign) (.type "BaseException") = some true)
    (ty_BadSign : PySem.W.typeIn K (.ref C_BadSign) = some (.type "type")) (k_BadSign : PySem.W.keepIn K (.ref C_BadSign) = true)
    (i_BadSign : PySem.W.findIn K (.ref C_BadSign) "__init__" = some (some (.ref f_init))) (v_BadSign : PySem.W.findIn K (.ref C_BadSign) "value" = some none)
    (ga_BadSign : PySem.W.findIn K (.ref C_BadSign) "__getattribute__" = some (some (.builtin "BaseException.__getattribute__")))
    (gg_BadSign : PySem.W.findIn K (.ref C_BadSign) "__getattr__" = some none)
    (hd_BadSign : PySem.W.hasDictIn K C_BadSign = true)
    (cl_BadSign : PySem.W.isClsIn K C_BadSign = true)
    (hc_BadSign : PySem.W.findIn K (.ref C_BadSign) "__class__" = some (some (.builtin "object.__class__")))
    (hn_BadSign : PySem.W.specialIn K (.builtin "object.__class__") "__get__" = some (some (.builtin "getset_descriptor.__get__")))
    (ht_BadSign : PySem.W.takesIn K (.builtin "object.__class__") = some true)
    (hm_BadSign : PySem.W.mroIn K C_BadSign (.type "object") = some true)
    {C_BadRule : Addr} {nm_BadRule : _} {q_BadRule : _} {N_BadRule : _} {bs_BadRule : _} {bm_BadRule : _} {sn_BadRule : _} {sub_BadRule : _} {ab_BadRule : _} {col_BadRule : _} {dd_BadRule : _} {k0_BadRule : _} {k1_BadRule : _} {k2_BadRule : _} {k3_BadRule : _} {k5_BadRule : _}
    (a_BadRule : PySem.W.nsIn K mainGlobals "BadRule" = some (some (.ref C_BadRule)))
    (l_BadRule : K.lookup C_BadRule = some (excClassObj nm_BadRule q_BadRule C_BadRule N_BadRule bs_BadRule bm_BadRule true sn_BadRule sub_BadRule ab_BadRule col_BadRule dd_BadRule k0_BadRule k1_BadRule k2_BadRule k3_BadRule k5_BadRule "ValueError.__new__")) (r_BadRule : PySem.HandSPX.refsVE bm_BadRule = true)
    (sa_BadRule : PySem.W.findIn K (.ref C_BadRule) "__setattr__" = some (some (.builtin "object.__setattr__"))) (ex_BadRule : PySem.W.subIn K (.ref C_BadRule) (.type "BaseException") = some true)
    (ty_BadRule : PySem.W.typeIn K (.ref C_BadRule) = some (.type "type")) (k_BadRule : PySem.W.keepIn K (.ref C_BadRule) = true)
    (i_BadRule : PySem.W.findIn K (.ref C_BadRule) "__init__" = some (some (.ref f_init))) (v_BadRule : PySem.W.findIn K (.ref C_BadRule) "value" = some none)
    (ga_BadRule : PySem.W.findIn K (.ref C_BadRule) "__getattribute__" = some (some (.builtin "BaseException.__getattribute__")))
    (gg_BadRule : PySem.W.findIn K (.ref C_BadRule) "__getattr__" = some none)
    (hd_BadRule : PySem.W.hasDictIn K C_BadRule = true)
    (cl_BadRule : PySem.W.isClsIn K C_BadRule = true)
    (hc_BadRule : PySem.W.findIn K (.ref C_BadRule) "__class__" = some (some (.builtin "object.__class__")))
    (hn_BadRule : PySem.W.specialIn K (.builtin "object.__class__") "__get__" = some (some (.builtin "getset_descriptor.__get__")))
    (ht_BadRule : PySem.W.takesIn K (.builtin "object.__class__") = some true)
    (hm_BadRule : PySem.W.mroIn K C_BadRule (.type "object") = some true)
    {C_BadText : Addr} {nm_BadText : _} {q_BadText : _} {N_BadText : _} {bs_BadText : _} {bm_BadText : _} {sn_BadText : _} {sub_BadText : _} {ab_BadText : _} {col_BadText : _} {dd_BadText : _} {k0_BadText : _} {k1_BadText : _} {k2_BadText : _} {k3_BadText : _} {k5_BadText : _}
    (a_BadText : PySem.W.nsIn K mainGlobals "BadText" = some (some (.ref C_BadText)))
    (l_BadText : K.lookup C_BadText = some (excClassObj nm_BadText q_BadText C_BadText N_BadText bs_BadText bm_BadText true sn_BadText sub_BadText ab_BadText col_BadText dd_BadText k0_BadText k1_BadText k2_BadText k3_BadText k5_BadText "ValueError.__new__")) (r_BadText : PySem.HandSPX.refsVE bm_BadText = true)
    (sa_BadText : PySem.W.findIn K (.ref C_BadText) "__setattr__" = some (some (.builtin "object.__setattr__"))) (ex_BadText : PySem.W.subIn K (.ref C_BadText) (.type "BaseException") = some true)
    (ty_BadText : PySem.W.typeIn K (.ref C_BadText) = some (.type "type")) (k_BadText : PySem.W.keepIn K (.ref C_BadText) = true)
    (i_BadText : PySem.W.findIn K (.ref C_BadText) "__init__" = some (some (.ref f_init))) (v_BadText : PySem.W.findIn K (.ref C_BadText) "value" = some none)
    (ga_BadText : PySem.W.findIn K (.ref C_BadText) "__getattribute__" = some (some (.builtin "BaseException.__getattribute__")))
    (gg_BadText : PySem.W.findIn K (.ref C_BadText) "__getattr__" = some none)
    (hd_BadText : PySem.W.hasDictIn K C_BadText = true)
    (cl_BadText : PySem.W.isClsIn K C_BadText = true)
    (hc_BadText : PySem.W.findIn K (.ref C_BadText) "__class__" = some (some (.builtin "object.__class__")))
    (hn_BadText : PySem.W.specialIn K (.builtin "object.__class__") "__get__" = some (some (.builtin "getset_descriptor.__get__")))
    (ht_BadText : PySem.W.takesIn K (.builtin "object.__class__") = some true)
    (hm_BadText : PySem.W.mroIn K C_BadText (.type "object") = some true)
    {C_BadParts : Addr} {nm_BadParts : _} {q_BadParts : _} {N_BadParts : _} {bs_BadParts : _} {bm_BadParts : _} {sn_BadParts : _} {sub_BadParts : _} {ab_BadParts : _} {col_BadParts : _} {dd_BadParts : _} {k0_BadParts : _} {k1_BadParts : _} {k2_BadParts : _} {k3_BadParts : _} {k5_BadParts : _}
    (a_BadParts : PySem.W.nsIn K mainGlobals "BadParts" = some (some (.ref C_BadParts)))
    (l_BadParts : K.lookup C_BadParts = some (excClassObj nm_BadParts q_BadParts C_BadParts N_BadParts bs_BadParts bm_BadParts true sn_BadParts sub_BadParts ab_BadParts col_BadParts dd_BadParts k0_BadParts k1_BadParts k2_BadParts k3_BadParts k5_BadParts "ValueError.__new__")) (r_BadParts : PySem.HandSPX.refsVE bm_BadParts = true)
    (sa_BadParts : PySem.W.findIn K (.ref C_BadParts) "__setattr__" = some (some (.builtin "object.__setattr__"))) (ex_BadParts : PySem.W.subIn K (.ref C_BadParts) (.type "BaseException") = some true)
    (ty_BadParts : PySem.W.typeIn K (.ref C_BadParts) = some (.type "type")) (k_BadParts : PySem.W.keepIn K (.ref C_BadParts) = true)
    (i_BadParts : PySem.W.findIn K (.ref C_BadParts) "__init__" = some (some (.ref f_init))) (v_BadParts : PySem.W.findIn K (.ref C_BadParts) "value" = some none)
    (ga_BadParts : PySem.W.findIn K (.ref C_BadParts) "__getattribute__" = some (some (.builtin "BaseException.__getattribute__")))
    (gg_BadParts : PySem.W.findIn K (.ref C_BadParts) "__getattr__" = some none)
    (hd_BadParts : PySem.W.hasDictIn K C_BadParts = true)
    (cl_BadParts : PySem.W.isClsIn K C_BadParts = true)
    (hc_BadParts : PySem.W.findIn K (.ref C_BadParts) "__class__" = some (some (.builtin "object.__class__")))
    (hn_BadParts : PySem.W.specialIn K (.builtin "object.__class__") "__get__" = some (some (.builtin "getset_descriptor.__get__")))
    (ht_BadParts : PySem.W.takesIn K (.builtin "object.__class__") = some true)
    (hm_BadParts : PySem.W.mroIn K C_BadParts (.type "object") = some true)
    {C_BadOthers : Addr} {nm_BadOthers : _} {q_BadOthers : _} {N_BadOthers : _} {bs_BadOthers : _} {bm_BadOthers : _} {sn_BadOthers : _} {sub_BadOthers : _} {ab_BadOthers : _} {col_BadOthers : _} {dd_BadOthers : _} {k0_BadOthers : _} {k1_BadOthers : _} {k2_BadOthers : _} {k3_BadOthers : _} {k5_BadOthers : _}
    (a_BadOthers : PySem.W.nsIn K mainGlobals "BadOthers" = some (some (.ref C_BadOthers)))
    (l_BadOthers : K.lookup C_BadOthers = some (excClassObj nm_BadOthers q_BadOthers C_BadOthers N_BadOthers bs_BadOthers bm_BadOthers true sn_BadOthers sub_BadOthers ab_BadOthers col_BadOthers dd_BadOthers k0_BadOthers k1_BadOthers k2_BadOthers k3_BadOthers k5_BadOthers "ValueError.__new__")) (r_BadOthers : PySem.HandSPX.refsVE bm_BadOthers = true)
    (sa_BadOthers : PySem.W.findIn K (.ref C_BadOthers) "__setattr__" = some (some (.builtin "object.__setattr__"))) (ex_BadOthers : PySem.W.subIn K (.ref C_BadOthers) (.type "BaseException") = some true)
    (ty_BadOthers : PySem.W.typeIn K (.ref C_BadOthers) = some (.type "type")) (k_BadOthers : PySem.W.keepIn K (.ref C_BadOthers) = true)
    (i_BadOthers : PySem.W.findIn K (.ref C_BadOthers) "__init__" = some (some (.ref f_init))) (v_BadOthers : PySem.W.findIn K (.ref C_BadOthers) "value" = some none)
    (ga_BadOthers : PySem.W.findIn K (.ref C_BadOthers) "__getattribute__" = some (some (.builtin "BaseException.__getattribute__")))
    (gg_BadOthers : PySem.W.findIn K (.ref C_BadOthers) "__getattr__" = some none)
    (hd_BadOthers : PySem.W.hasDictIn K C_BadOthers = true)
    (cl_BadOthers : PySem.W.isClsIn K C_BadOthers = true)
    (hc_BadOthers : PySem.W.findIn K (.ref C_BadOthers) "__class__" = some (some (.builtin "object.__class__")))
    (hn_BadOthers : PySem.W.specialIn K (.builtin "object.__class__") "__get__" = some (some (.builtin "getset_descriptor.__get__")))
    (ht_BadOthers : PySem.W.takesIn K (.builtin "object.__class__") = some true)
    (hm_BadOthers : PySem.W.mroIn K C_BadOthers (.type "object") = some true)
    {C_BadCount : Addr} {nm_BadCount : _} {q_BadCount : _} {N_BadCount : _} {bs_BadCount : _} {bm_BadCount : _} {sn_BadCount : _} {sub_BadCount : _} {ab_BadCount : _} {col_BadCount : _} {dd_BadCount : _} {k0_BadCount : _} {k1_BadCount : _} {k2_BadCount : _} {k3_BadCount : _} {k5_BadCount : _}
    (a_BadCount : PySem.W.nsIn K mainGlobals "BadCount" = some (some (.ref C_BadCount)))
    (l_BadCount : K.lookup C_BadCount = some (excClassObj nm_BadCount q_BadCount C_BadCount N_BadCount bs_BadCount bm_BadCount true sn_BadCount sub_BadCount ab_BadCount col_BadCount dd_BadCount k0_BadCount k1_BadCount k2_BadCount k3_BadCount k5_BadCount "ValueError.__new__")) (r_BadCount : PySem.HandSPX.refsVE bm_BadCount = true)
    (sa_BadCount : PySem.W.findIn K (.ref C_BadCount) "__setattr__" = some (some (.builtin "object.__setattr__"))) (ex_BadCount : PySem.W.subIn K (.ref C_BadCount) (.type "BaseException") = some true)
    (ty_BadCount : PySem.W.typeIn K (.ref C_BadCount) = some (.type "type")) (k_BadCount : PySem.W.keepIn K (.ref C_BadCount) = true)
    (i_BadCount : PySem.W.findIn K (.ref C_BadCount) "__init__" = some (some (.ref f_init))) (v_BadCount : PySem.W.findIn K (.ref C_BadCount) "value" = some none)
    (ga_BadCount : PySem.W.findIn K (.ref C_BadCount) "__getattribute__" = some (some (.builtin "BaseException.__getattribute__")))
    (gg_BadCount : PySem.W.findIn K (.ref C_BadCount) "__getattr__" = some none)
    (hd_BadCount : PySem.W.hasDictIn K C_BadCount = true)
    (cl_BadCount : PySem.W.isClsIn K C_BadCount = true)
    (hc_BadCount : PySem.W.findIn K (.ref C_BadCount) "__class__" = some (some (.builtin "object.__class__")))
    (hn_BadCount : PySem.W.specialIn K (.builtin "object.__class__") "__get__" = some (some (.builtin "getset_descriptor.__get__")))
    (ht_BadCount : PySem.W.takesIn K (.builtin "object.__class__") = some true)
    (hm_BadCount : PySem.W.mroIn K C_BadCount (.type "object") = some true)
    {C_BadBook : Addr} {nm_BadBook : _} {q_BadBook : _} {N_BadBook : _} {bs_BadBook : _} {bm_BadBook : _} {sn_BadBook : _} {sub_BadBook : _} {ab_BadBook : _} {col_BadBook : _} {dd_BadBook : _} {k0_BadBook : _} {k1_BadBook : _} {k2_BadBook : _} {k3_BadBook : _} {k5_BadBook : _}
    (a_BadBook : PySem.W.nsIn K mainGlobals "BadBook" = some (some (.ref C_BadBook)))
    (l_BadBook : K.lookup C_BadBook = some (excClassObj nm_BadBook q_BadBook C_BadBook N_BadBook bs_BadBook bm_BadBook true sn_BadBook sub_BadBook ab_BadBook col_BadBook dd_BadBook k0_BadBook k1_BadBook k2_BadBook k3_BadBook k5_BadBook "ValueError.__new__")) (r_BadBook : PySem.HandSPX.refsVE bm_BadBook = true)
    (sa_BadBook : PySem.W.findIn K (.ref C_BadBook) "__setattr__" = some (some (.builtin "object.__setattr__"))) (ex_BadBook : PySem.W.subIn K (.ref C_BadBook) (.type "BaseException") = some true)
    (ty_BadBook : PySem.W.typeIn K (.ref C_BadBook) = some (.type "type")) (k_BadBook : PySem.W.keepIn K (.ref C_BadBook) = true)
    (i_BadBook : PySem.W.findIn K (.ref C_BadBook) "__init__" = some (some (.ref f_init))) (v_BadBook : PySem.W.findIn K (.ref C_BadBook) "value" = some none)
    (ga_BadBook : PySem.W.findIn K (.ref C_BadBook) "__getattribute__" = some (some (.builtin "BaseException.__getattribute__")))
    (gg_BadBook : PySem.W.findIn K (.ref C_BadBook) "__getattr__" = some none)
    (hd_BadBook : PySem.W.hasDictIn K C_BadBook = true)
    (cl_BadBook : PySem.W.isClsIn K C_BadBook = true)
    (hc_BadBook : PySem.W.findIn K (.ref C_BadBook) "__class__" = some (some (.builtin "object.__class__")))
    (hn_BadBook : PySem.W.specialIn K (.builtin "object.__class__") "__get__" = some (some (.builtin "getset_descriptor.__get__")))
    (ht_BadBook : PySem.W.takesIn K (.builtin "object.__class__") = some true)
    (hm_BadBook : PySem.W.mroIn K C_BadBook (.type "object") = some true)
    {C_BadFlag : Addr} {nm_BadFlag : _} {q_BadFlag : _} {N_BadFlag : _} {bs_BadFlag : _} {bm_BadFlag : _} {sn_BadFlag : _} {sub_BadFlag : _} {ab_BadFlag : _} {col_BadFlag : _} {dd_BadFlag : _} {k0_BadFlag : _} {k1_BadFlag : _} {k2_BadFlag : _} {k3_BadFlag : _} {k5_BadFlag : _}
    (a_BadFlag : PySem.W.nsIn K mainGlobals "BadFlag" = some (some (.ref C_BadFlag)))
    (l_BadFlag : K.lookup C_BadFlag = some (excClassObj nm_BadFlag q_BadFlag C_BadFlag N_BadFlag bs_BadFlag bm_BadFlag true sn_BadFlag sub_BadFlag ab_BadFlag col_BadFlag dd_BadFlag k0_BadFlag k1_BadFlag k2_BadFlag k3_BadFlag k5_BadFlag "ValueError.__new__")) (r_BadFlag : PySem.HandSPX.refsVE bm_BadFlag = true)
    (sa_BadFlag : PySem.W.findIn K (.ref C_BadFlag) "__setattr__" = some (some (.builtin "object.__setattr__"))) (ex_BadFlag : PySem.W.subIn K (.ref C_BadFlag) (.type "BaseException") = some true)
    (ty_BadFlag : PySem.W.typeIn K (.ref C_BadFlag) = some (.type "type")) (k_BadFlag : PySem.W.keepIn K (.ref C_BadFlag) = true)
    (i_BadFlag : PySem.W.findIn K (.ref C_BadFlag) "__init__" = some (some (.ref f_init))) (v_BadFlag : PySem.W.findIn K (.ref C_BadFlag) "value" = some none)
    (ga_BadFlag : PySem.W.findIn K (.ref C_BadFlag) "__getattribute__" = some (some (.builtin "BaseException.__getattribute__")))
    (gg_BadFlag : PySem.W.findIn K (.ref C_BadFlag) "__getattr__" = some none)
    (hd_BadFlag : PySem.W.hasDictIn K C_BadFlag = true)
    (cl_BadFlag : PySem.W.isClsIn K C_BadFlag = true)
    (hc_BadFlag : PySem.W.findIn K (.ref C_BadFlag) "__class__" = some (some (.builtin "object.__class__")))
    (hn_BadFlag : PySem.W.specialIn K (.builtin "object.__class__") "__get__" = some (some (.builtin "getset_descriptor.__get__")))
    (ht_BadFlag : PySem.W.takesIn K (.builtin "object.__class__") = some true)
    (hm_BadFlag : PySem.W.mroIn K C_BadFlag (.type "object") = some true)
    {C_BadPlace : Addr} {nm_BadPlace : _} {q_BadPlace : _} {N_BadPlace : _} {bs_BadPlace : _} {bm_BadPlace : _} {sn_BadPlace : _} {sub_BadPlace : _} {ab_BadPlace : _} {col_BadPlace : _} {dd_BadPlace : _} {k0_BadPlace : _} {k1_BadPlace : _} {k2_BadPlace : _} {k3_BadPlace : _} {k5_BadPlace : _}
    (a_BadPlace : PySem.W.nsIn K mainGlobals "BadPlace" = some (some (.ref C_BadPlace)))
    (l_BadPlace : K.lookup C_BadPlace = some (excClassObj nm_BadPlace q_BadPlace C_BadPlace N_BadPlace bs_BadPlace bm_BadPlace true sn_BadPlace sub_BadPlace ab_BadPlace col_BadPlace dd_BadPlace k0_BadPlace k1_BadPlace k2_BadPlace k3_BadPlace k5_BadPlace "ValueError.__new__")) (r_BadPlace : PySem.HandSPX.refsVE bm_BadPlace = true)
    (sa_BadPlace : PySem.W.findIn K (.ref C_BadPlace) "__setattr__" = some (some (.builtin "object.__setattr__"))) (ex_BadPlace : PySem.W.subIn K (.ref C_BadPlace) (.type "BaseException") = some true)
    (ty_BadPlace : PySem.W.typeIn K (.ref C_BadPlace) = some (.type "type")) (k_BadPlace : PySem.W.keepIn K (.ref C_BadPlace) = true)
    (i_BadPlace : PySem.W.findIn K (.ref C_BadPlace) "__init__" = some (some (.ref f_init))) (v_BadPlace : PySem.W.findIn K (.ref C_BadPlace) "value" = some none)
    (ga_BadPlace : PySem.W.findIn K (.ref C_BadPlace) "__getattribute__" = some (some (.builtin "BaseException.__getattribute__")))
    (gg_BadPlace : PySem.W.findIn K (.ref C_BadPlace) "__getattr__" = some none)
    (hd_BadPlace : PySem.W.hasDictIn K C_BadPlace = true)
    (cl_BadPlace : PySem.W.isClsIn K C_BadPlace = true)
    (hc_BadPlace : PySem.W.findIn K (.ref C_BadPlace) "__class__" = some (some (.builtin "object.__class__")))
    (hn_BadPlace : PySem.W.specialIn K (.builtin "object.__class__") "__get__" = some (some (.builtin "getset_descriptor.__get__")))
    (ht_BadPlace : PySem.W.takesIn K (.builtin "object.__class__") = some true)
    (hm_BadPlace : PySem.W.mroIn K C_BadPlace (.type "object") = some true)
    {C_BadClaim : Addr} {nm_BadClaim : _} {q_BadClaim : _} {N_BadClaim : _} {bs_BadClaim : _} {bm_BadClaim : _} {sn_BadClaim : _} {sub_BadClaim : _} {ab_BadClaim : _} {col_BadClaim : _} {dd_BadClaim : _} {k0_BadClaim : _} {k1_BadClaim : _} {k2_BadClaim : _} {k3_BadClaim : _} {k5_BadClaim : _}
    (a_BadClaim : PySem.W.nsIn K mainGlobals "BadClaim" = some (some (.ref C_BadClaim)))
    (l_BadClaim : K.lookup C_BadClaim = some (excClassObj nm_BadClaim q_BadClaim C_BadClaim N_BadClaim bs_BadClaim bm_BadClaim true sn_BadClaim sub_BadClaim ab_BadClaim col_BadClaim dd_BadClaim k0_BadClaim k1_BadClaim k2_BadClaim k3_BadClaim k5_BadClaim "ValueError.__new__")) (r_BadClaim : PySem.HandSPX.refsVE bm_BadClaim = true)
    (sa_BadClaim : PySem.W.findIn K (.ref C_BadClaim) "__setattr__" = some (some (.builtin "object.__setattr__"))) (ex_BadClaim : PySem.W.subIn K (.ref C_BadClaim) (.type "BaseException") = some true)
    (ty_BadClaim : PySem.W.typeIn K (.ref C_BadClaim) = some (.type "type")) (k_BadClaim : PySem.W.keepIn K (.ref C_BadClaim) = true)
    (i_BadClaim : PySem.W.findIn K (.ref C_BadClaim) "__init__" = some (some (.ref f_init))) (v_BadClaim : PySem.W.findIn K (.ref C_BadClaim) "value" = some none)
    (ga_BadClaim : PySem.W.findIn K (.ref C_BadClaim) "__getattribute__" = some (some (.builtin "BaseException.__getattribute__")))
    (gg_BadClaim : PySem.W.findIn K (.ref C_BadClaim) "__getattr__" = some none)
    (hd_BadClaim : PySem.W.hasDictIn K C_BadClaim = true)
    (cl_BadClaim : PySem.W.isClsIn K C_BadClaim = true)
    (hc_BadClaim : PySem.W.findIn K (.ref C_BadClaim) "__class__" = some (some (.builtin "object.__class__")))
    (hn_BadClaim : PySem.W.specialIn K (.builtin "object.__class__") "__get__" = some (some (.builtin "getset_descriptor.__get__")))
    (ht_BadClaim : PySem.W.takesIn K (.builtin "object.__class__") = some true)
    (hm_BadClaim : PySem.W.mroIn K C_BadClaim (.type "object") = some true)
    {C_BadWorld : Addr} {nm_BadWorld : _} {q_BadWorld : _} {N_BadWorld : _} {bs_BadWorld : _} {bm_BadWorld : _} {sn_BadWorld : _} {sub_BadWorld : _} {ab_BadWorld : _} {col_BadWorld : _} {dd_BadWorld : _} {k0_BadWorld : _} {k1_BadWorld : _} {k2_BadWorld : _} {k3_BadWorld : _} {k5_BadWorld : _}
    (a_BadWorld : PySem.W.nsIn K mainGlobals "BadWorld" = some (some (.ref C_BadWorld)))
    (l_BadWorld : K.lookup C_BadWorld = some (excClassObj nm_BadWorld q_BadWorld C_BadWorld N_BadWorld bs_BadWorld bm_BadWorld true sn_BadWorld sub_BadWorld ab_BadWorld col_BadWorld dd_BadWorld k0_BadWorld k1_BadWorld k2_BadWorld k3_BadWorld k5_BadWorld "ValueError.__new__")) (r_BadWorld : PySem.HandSPX.refsVE bm_BadWorld = true)
    (sa_BadWorld : PySem.W.findIn K (.ref C_BadWorld) "__setattr__" = some (some (.builtin "object.__setattr__"))) (ex_BadWorld : PySem.W.subIn K (.ref C_BadWorld) (.type "BaseException") = some true)
    (ty_BadWorld : PySem.W.typeIn K (.ref C_BadWorld) = some (.type "type")) (k_BadWorld : PySem.W.keepIn K (.ref C_BadWorld) = true)
    (i_BadWorld : PySem.W.findIn K (.ref C_BadWorld) "__init__" = some (some (.ref f_init))) (v_BadWorld : PySem.W.findIn K (.ref C_BadWorld) "value" = some none)
    (ga_BadWorld : PySem.W.findIn K (.ref C_BadWorld) "__getattribute__" = some (some (.builtin "BaseException.__getattribute__")))
    (gg_BadWorld : PySem.W.findIn K (.ref C_BadWorld) "__getattr__" = some none)
    (hd_BadWorld : PySem.W.hasDictIn K C_BadWorld = true)
    (cl_BadWorld : PySem.W.isClsIn K C_BadWorld = true)
    (hc_BadWorld : PySem.W.findIn K (.ref C_BadWorld) "__class__" = some (some (.builtin "object.__class__")))
    (hn_BadWorld : PySem.W.specialIn K (.builtin "object.__class__") "__get__" = some (some (.builtin "getset_descriptor.__get__")))
    (ht_BadWorld : PySem.W.takesIn K (.builtin "object.__class__") = some true)
    (hm_BadWorld : PySem.W.mroIn K C_BadWorld (.type "object") = some true)
    {C_BadKept : Addr} {nm_BadKept : _} {q_BadKept : _} {N_BadKept : _} {bs_BadKept : _} {bm_BadKept : _} {sn_BadKept : _} {sub_BadKept : _} {ab_BadKept : _} {col_BadKept : _} {dd_BadKept : _} {k0_BadKept : _} {k1_BadKept : _} {k2_BadKept : _} {k3_BadKept : _} {k5_BadKept : _}
    (a_BadKept : PySem.W.nsIn K mainGlobals "BadKept" = some (some (.ref C_BadKept)))
    (l_BadKept : K.lookup C_BadKept = some (excClassObj nm_BadKept q_BadKept C_BadKept N_BadKept bs_BadKept bm_BadKept true sn_BadKept sub_BadKept ab_BadKept col_BadKept dd_BadKept k0_BadKept k1_BadKept k2_BadKept k3_BadKept k5_BadKept "ValueError.__new__")) (r_BadKept : PySem.HandSPX.refsVE bm_BadKept = true)
    (sa_BadKept : PySem.W.findIn K (.ref C_BadKept) "__setattr__" = some (some (.builtin "object.__setattr__"))) (ex_BadKept : PySem.W.subIn K (.ref C_BadKept) (.type "BaseException") = some true)
    (ty_BadKept : PySem.W.typeIn K (.ref C_BadKept) = some (.type "type")) (k_BadKept : PySem.W.keepIn K (.ref C_BadKept) = true)
    (i_BadKept : PySem.W.findIn K (.ref C_BadKept) "__init__" = some (some (.ref f_init))) (v_BadKept : PySem.W.findIn K (.ref C_BadKept) "value" = some none)
    (ga_BadKept : PySem.W.findIn K (.ref C_BadKept) "__getattribute__" = some (some (.builtin "BaseException.__getattribute__")))
    (gg_BadKept : PySem.W.findIn K (.ref C_BadKept) "__getattr__" = some none)
    (hd_BadKept : PySem.W.hasDictIn K C_BadKept = true)
    (cl_BadKept : PySem.W.isClsIn K C_BadKept = true)
    (hc_BadKept : PySem.W.findIn K (.ref C_BadKept) "__class__" = some (some (.builtin "object.__class__")))
    (hn_BadKept : PySem.W.specialIn K (.builtin "object.__class__") "__get__" = some (some (.builtin "getset_descriptor.__get__")))
    (ht_BadKept : PySem.W.takesIn K (.builtin "object.__class__") = some true)
    (hm_BadKept : PySem.W.mroIn K C_BadKept (.type "object") = some true)
    {C_BadWord : Addr} {nm_BadWord : _} {q_BadWord : _} {N_BadWord : _} {bs_BadWord : _} {bm_BadWord : _} {sn_BadWord : _} {sub_BadWord : _} {ab_BadWord : _} {col_BadWord : _} {dd_BadWord : _} {k0_BadWord : _} {k1_BadWord : _} {k2_BadWord : _} {k3_BadWord : _} {k5_BadWord : _}
    (a_BadWord : PySem.W.nsIn K mainGlobals "BadWord" = some (some (.ref C_BadWord)))
    (l_BadWord : K.lookup C_BadWord = some (excClassObj nm_BadWord q_BadWord C_BadWord N_BadWord bs_BadWord bm_BadWord true sn_BadWord sub_BadWord ab_BadWord col_BadWord dd_BadWord k0_BadWord k1_BadWord k2_BadWord k3_BadWord k5_BadWord "ValueError.__new__")) (r_BadWord : PySem.HandSPX.refsVE bm_BadWord = true)
    (sa_BadWord : PySem.W.findIn K (.ref C_BadWord) "__setattr__" = some (some (.builtin "object.__setattr__"))) (ex_BadWord : PySem.W.subIn K (.ref C_BadWord) (.type "BaseException") = some true)
    (ty_BadWord : PySem.W.typeIn K (.ref C_BadWord) = some (.type "type")) (k_BadWord : PySem.W.keepIn K (.ref C_BadWord) = true)
    (i_BadWord : PySem.W.findIn K (.ref C_BadWord) "__init__" = some (some (.ref f_init))) (v_BadWord : PySem.W.findIn K (.ref C_BadWord) "value" = some none)
    (ga_BadWord : PySem.W.findIn K (.ref C_BadWord) "__getattribute__" = some (some (.builtin "BaseException.__getattribute__")))
    (gg_BadWord : PySem.W.findIn K (.ref C_BadWord) "__getattr__" = some none)
    (hd_BadWord : PySem.W.hasDictIn K C_BadWord = true)
    (cl_BadWord : PySem.W.isClsIn K C_BadWord = true)
    (hc_BadWord : PySem.W.findIn K (.ref C_BadWord) "__class__" = some (some (.builtin "object.__class__")))
    (hn_BadWord : PySem.W.specialIn K (.builtin "object.__class__") "__get__" = some (some (.builtin "getset_descriptor.__get__")))
    (ht_BadWord : PySem.W.takesIn K (.builtin "object.__class__") = some true)
    (hm_BadWord : PySem.W.mroIn K C_BadWord (.type "object") = some true)
    {C_NoPaper : Addr} {nm_NoPaper : _} {q_NoPaper : _} {N_NoPaper : _} {bs_NoPaper : _} {bm_NoPaper : _} {sn_NoPaper : _} {sub_NoPaper : _} {ab_NoPaper : _} {col_NoPaper : _} {dd_NoPaper : _} {k0_NoPaper : _} {k1_NoPaper : _} {k2_NoPaper : _} {k3_NoPaper : _} {k5_NoPaper : _}
    (a_NoPaper : PySem.W.nsIn K mainGlobals "NoPaper" = some (some (.ref C_NoPaper)))
    (l_NoPaper : K.lookup C_NoPaper = some (excClassObj nm_NoPaper q_NoPaper C_NoPaper N_NoPaper bs_NoPaper bm_NoPaper true sn_NoPaper sub_NoPaper ab_NoPaper col_NoPaper dd_NoPaper k0_NoPaper k1_NoPaper k2_NoPaper k3_NoPaper k5_NoPaper "ValueError.__new__")) (r_NoPaper : PySem.HandSPX.refsVE bm_NoPaper = true)
    (sa_NoPaper : PySem.W.findIn K (.ref C_NoPaper) "__setattr__" = some (some (.builtin "object.__setattr__"))) (ex_NoPaper : PySem.W.subIn K (.ref C_NoPaper) (.type "BaseException") = some true)
    (ty_NoPaper : PySem.W.typeIn K (.ref C_NoPaper) = some (.type "type")) (k_NoPaper : PySem.W.keepIn K (.ref C_NoPaper) = true)
    (i_NoPaper : PySem.W.findIn K (.ref C_NoPaper) "__init__" = some (some (.ref f_init))) (v_NoPaper : PySem.W.findIn K (.ref C_NoPaper) "value" = some none)
    (ga_NoPaper : PySem.W.findIn K (.ref C_NoPaper) "__getattribute__" = some (some (.builtin "BaseException.__getattribute__")))
    (gg_NoPaper : PySem.W.findIn K (.ref C_NoPaper) "__getattr__" = some none)
    (hd_NoPaper : PySem.W.hasDictIn K C_NoPaper = true)
    (cl_NoPaper : PySem.W.isClsIn K C_NoPaper = true)
    (hc_NoPaper : PySem.W.findIn K (.ref C_NoPaper) "__class__" = some (some (.builtin "object.__class__")))
    (hn_NoPaper : PySem.W.specialIn K (.builtin "object.__class__") "__get__" = some (some (.builtin "getset_descriptor.__get__")))
    (ht_NoPaper : PySem.W.takesIn K (.builtin "object.__class__") = some true)
    (hm_NoPaper : PySem.W.mroIn K C_NoPaper (.type "object") = some true)
    {C_BadPlanned : Addr} {nm_BadPlanned : _} {q_BadPlanned : _} {N_BadPlanned : _} {bs_BadPlanned : _} {bm_BadPlanned : _} {sn_BadPlanned : _} {sub_BadPlanned : _} {ab_BadPlanned : _} {col_BadPlanned : _} {dd_BadPlanned : _} {k0_BadPlanned : _} {k1_BadPlanned : _} {k2_BadPlanned : _} {k3_BadPlanned : _} {k5_BadPlanned : _}
    (a_BadPlanned : PySem.W.nsIn K mainGlobals "BadPlanned" = some (some (.ref C_BadPlanned)))
    (l_BadPlanned : K.lookup C_BadPlanned = some (excClassObj nm_BadPlanned q_BadPlanned C_BadPlanned N_BadPlanned bs_BadPlanned bm_BadPlanned true sn_BadPlanned sub_BadPlanned ab_BadPlanned col_BadPlanned dd_BadPlanned k0_BadPlanned k1_BadPlanned k2_BadPlanned k3_BadPlanned k5_BadPlanned "ValueError.__new__")) (r_BadPlanned : PySem.HandSPX.refsVE bm_BadPlanned = true)
    (sa_BadPlanned : PySem.W.findIn K (.ref C_BadPlanned) "__setattr__" = some (some (.builtin "object.__setattr__"))) (ex_BadPlanned : PySem.W.subIn K (.ref C_BadPlanned) (.type "BaseException") = some true)
    (ty_BadPlanned : PySem.W.typeIn K (.ref C_BadPlanned) = some (.type "type")) (k_BadPlanned : PySem.W.keepIn K (.ref C_BadPlanned) = true)
    (i_BadPlanned : PySem.W.findIn K (.ref C_BadPlanned) "__init__" = some (some (.ref f_init))) (v_BadPlanned : PySem.W.findIn K (.ref C_BadPlanned) "value" = some none)
    (ga_BadPlanned : PySem.W.findIn K (.ref C_BadPlanned) "__getattribute__" = some (some (.builtin "BaseException.__getattribute__")))
    (gg_BadPlanned : PySem.W.findIn K (.ref C_BadPlanned) "__getattr__" = some none)
    (hd_BadPlanned : PySem.W.hasDictIn K C_BadPlanned = true)
    (cl_BadPlanned : PySem.W.isClsIn K C_BadPlanned = true)
    (hc_BadPlanned : PySem.W.findIn K (.ref C_BadPlanned) "__class__" = some (some (.builtin "object.__class__")))
    (hn_BadPlanned : PySem.W.specialIn K (.builtin "object.__class__") "__get__" = some (some (.builtin "getset_descriptor.__get__")))
    (ht_BadPlanned : PySem.W.takesIn K (.builtin "object.__class__") = some true)
    (hm_BadPlanned : PySem.W.mroIn K C_BadPlanned (.type "object") = some true)
    {C_BadClaims : Addr} {nm_BadClaims : _} {q_BadClaims : _} {N_BadClaims : _} {bs_BadClaims : _} {bm_BadClaims : _} {sn_BadClaims : _} {sub_BadClaims : _} {ab_BadClaims : _} {col_BadClaims : _} {dd_BadClaims : _} {k0_BadClaims : _} {k1_BadClaims : _} {k2_BadClaims : _} {k3_BadClaims : _} {k5_BadClaims : _}
    (a_BadClaims : PySem.W.nsIn K mainGlobals "BadClaims" = some (some (.ref C_BadClaims)))
    (l_BadClaims : K.lookup C_BadClaims = some (excClassObj nm_BadClaims q_BadClaims C_BadClaims N_BadClaims bs_BadClaims bm_BadClaims true sn_BadClaims sub_BadClaims ab_BadClaims col_BadClaims dd_BadClaims k0_BadClaims k1_BadClaims k2_BadClaims k3_BadClaims k5_BadClaims "ValueError.__new__")) (r_BadClaims : PySem.HandSPX.refsVE bm_BadClaims = true)
    (sa_BadClaims : PySem.W.findIn K (.ref C_BadClaims) "__setattr__" = some (some (.builtin "object.__setattr__"))) (ex_BadClaims : PySem.W.subIn K (.ref C_BadClaims) (.type "BaseException") = some true)
    (ty_BadClaims : PySem.W.typeIn K (.ref C_BadClaims) = some (.type "type")) (k_BadClaims : PySem.W.keepIn K (.ref C_BadClaims) = true)
    (i_BadClaims : PySem.W.findIn K (.ref C_BadClaims) "__init__" = some (some (.ref f_init))) (v_BadClaims : PySem.W.findIn K (.ref C_BadClaims) "value" = some none)
    (ga_BadClaims : PySem.W.findIn K (.ref C_BadClaims) "__getattribute__" = some (some (.builtin "BaseException.__getattribute__")))
    (gg_BadClaims : PySem.W.findIn K (.ref C_BadClaims) "__getattr__" = some none)
    (hd_BadClaims : PySem.W.hasDictIn K C_BadClaims = true)
    (cl_BadClaims : PySem.W.isClsIn K C_BadClaims = true)
    (hc_BadClaims : PySem.W.findIn K (.ref C_BadClaims) "__class__" = some (some (.builtin "object.__class__")))
    (hn_BadClaims : PySem.W.specialIn K (.builtin "object.__class__") "__get__" = some (some (.builtin "getset_descriptor.__get__")))
    (ht_BadClaims : PySem.W.takesIn K (.builtin "object.__class__") = some true)
    (hm_BadClaims : PySem.W.mroIn K C_BadClaims (.type "object") = some true)
    {C_Clashes : Addr} {nm_Clashes : _} {q_Clashes : _} {N_Clashes : _} {bs_Clashes : _} {bm_Clashes : _} {sn_Clashes : _} {sub_Clashes : _} {ab_Clashes : _} {col_Clashes : _} {dd_Clashes : _} {k0_Clashes : _} {k1_Clashes : _} {k2_Clashes : _} {k3_Clashes : _} {k5_Clashes : _}
    (a_Clashes : PySem.W.nsIn K mainGlobals "Clashes" = some (some (.ref C_Clashes)))
    (l_Clashes : K.lookup C_Clashes = some (excClassObj nm_Clashes q_Clashes C_Clashes N_Clashes bs_Clashes bm_Clashes true sn_Clashes sub_Clashes ab_Clashes col_Clashes dd_Clashes k0_Clashes k1_Clashes k2_Clashes k3_Clashes k5_Clashes "ValueError.__new__")) (r_Clashes : PySem.HandSPX.refsVE bm_Clashes = true)
    (sa_Clashes : PySem.W.findIn K (.ref C_Clashes) "__setattr__" = some (some (.builtin "object.__setattr__"))) (ex_Clashes : PySem.W.subIn K (.ref C_Clashes) (.type "BaseException") = some true)
    (ty_Clashes : PySem.W.typeIn K (.ref C_Clashes) = some (.type "type")) (k_Clashes : PySem.W.keepIn K (.ref C_Clashes) = true)
    {f_init_Clashes : Addr} {oc_init_Clashes kV_init_Clashes dc_init_Clashes pm_init_Clashes cd_init_Clashes ct_init_Clashes : Value} {od_init_Clashes an_init_Clashes : Option Addr} {sl_init_Clashes : Array (Option Value)}
    (l_init_Clashes : K.lookup f_init_Clashes = some ⟨oc_init_Clashes, od_init_Clashes, .func (PySem.W.fnOf "__init__" "Clashes.__init__" (defArgs s_init_Clashes) (defBody s_init_Clashes) (defScope s_init_Clashes) .none kV_init_Clashes dc_init_Clashes pm_init_Clashes an_init_Clashes cd_init_Clashes ct_init_Clashes), sl_init_Clashes⟩)
    (c_init_Clashes : PySem.W.codeIn K cd_init_Clashes "Clashes.__init__" = true) (k_init_Clashes : PySem.W.keepIn K (.ref f_init_Clashes) = true)
    (t_init_Clashes : PySem.W.typeIn K (.ref f_init_Clashes) = some (.type "function"))
    (i_Clashes : PySem.W.findIn K (.ref C_Clashes) "__init__" = some (some (.ref f_init_Clashes))) (v_Clashes : PySem.W.findIn K (.ref C_Clashes) "value" = some none)
    (ga_Clashes : PySem.W.findIn K (.ref C_Clashes) "__getattribute__" = some (some (.builtin "BaseException.__getattribute__")))
    (gg_Clashes : PySem.W.findIn K (.ref C_Clashes) "__getattr__" = some none)
    (hd_Clashes : PySem.W.hasDictIn K C_Clashes = true)
    (cl_Clashes : PySem.W.isClsIn K C_Clashes = true)
    (hc_Clashes : PySem.W.findIn K (.ref C_Clashes) "__class__" = some (some (.builtin "object.__class__")))
    (hn_Clashes : PySem.W.specialIn K (.builtin "object.__class__") "__get__" = some (some (.builtin "getset_descriptor.__get__")))
    (ht_Clashes : PySem.W.takesIn K (.builtin "object.__class__") = some true)
    (hm_Clashes : PySem.W.mroIn K C_Clashes (.type "object") = some true)
    {C_TooMany : Addr} {nm_TooMany : _} {q_TooMany : _} {N_TooMany : _} {bs_TooMany : _} {bm_TooMany : _} {sn_TooMany : _} {sub_TooMany : _} {ab_TooMany : _} {col_TooMany : _} {dd_TooMany : _} {k0_TooMany : _} {k1_TooMany : _} {k2_TooMany : _} {k3_TooMany : _} {k5_TooMany : _}
    (a_TooMany : PySem.W.nsIn K mainGlobals "TooMany" = some (some (.ref C_TooMany)))
    (l_TooMany : K.lookup C_TooMany = some (excClassObj nm_TooMany q_TooMany C_TooMany N_TooMany bs_TooMany bm_TooMany true sn_TooMany sub_TooMany ab_TooMany col_TooMany dd_TooMany k0_TooMany k1_TooMany k2_TooMany k3_TooMany k5_TooMany "ValueError.__new__")) (r_TooMany : PySem.HandSPX.refsVE bm_TooMany = true)
    (sa_TooMany : PySem.W.findIn K (.ref C_TooMany) "__setattr__" = some (some (.builtin "object.__setattr__"))) (ex_TooMany : PySem.W.subIn K (.ref C_TooMany) (.type "BaseException") = some true)
    (ty_TooMany : PySem.W.typeIn K (.ref C_TooMany) = some (.type "type")) (k_TooMany : PySem.W.keepIn K (.ref C_TooMany) = true)
    {f_init_TooMany : Addr} {oc_init_TooMany kV_init_TooMany dc_init_TooMany pm_init_TooMany cd_init_TooMany ct_init_TooMany : Value} {od_init_TooMany an_init_TooMany : Option Addr} {sl_init_TooMany : Array (Option Value)}
    (l_init_TooMany : K.lookup f_init_TooMany = some ⟨oc_init_TooMany, od_init_TooMany, .func (PySem.W.fnOf "__init__" "TooMany.__init__" (defArgs s_init_TooMany) (defBody s_init_TooMany) (defScope s_init_TooMany) .none kV_init_TooMany dc_init_TooMany pm_init_TooMany an_init_TooMany cd_init_TooMany ct_init_TooMany), sl_init_TooMany⟩)
    (c_init_TooMany : PySem.W.codeIn K cd_init_TooMany "TooMany.__init__" = true) (k_init_TooMany : PySem.W.keepIn K (.ref f_init_TooMany) = true)
    (t_init_TooMany : PySem.W.typeIn K (.ref f_init_TooMany) = some (.type "function"))
    (i_TooMany : PySem.W.findIn K (.ref C_TooMany) "__init__" = some (some (.ref f_init_TooMany))) (v_TooMany : PySem.W.findIn K (.ref C_TooMany) "value" = some none)
    (ga_TooMany : PySem.W.findIn K (.ref C_TooMany) "__getattribute__" = some (some (.builtin "BaseException.__getattribute__")))
    (gg_TooMany : PySem.W.findIn K (.ref C_TooMany) "__getattr__" = some none)
    (hd_TooMany : PySem.W.hasDictIn K C_TooMany = true)
    (cl_TooMany : PySem.W.isClsIn K C_TooMany = true)
    (hc_TooMany : PySem.W.findIn K (.ref C_TooMany) "__class__" = some (some (.builtin "object.__class__")))
    (hn_TooMany : PySem.W.specialIn K (.builtin "object.__class__") "__get__" = some (some (.builtin "getset_descriptor.__get__")))
    (ht_TooMany : PySem.W.takesIn K (.builtin "object.__class__") = some true)
    (hm_TooMany : PySem.W.mroIn K C_TooMany (.type "object") = some true)
    {C_TooLong : Addr} {nm_TooLong : _} {q_TooLong : _} {N_TooLong : _} {bs_TooLong : _} {bm_TooLong : _} {sn_TooLong : _} {sub_TooLong : _} {ab_TooLong : _} {col_TooLong : _} {dd_TooLong : _} {k0_TooLong : _} {k1_TooLong : _} {k2_TooLong : _} {k3_TooLong : _} {k5_TooLong : _}
    (a_TooLong : PySem.W.nsIn K mainGlobals "TooLong" = some (some (.ref C_TooLong)))
    (l_TooLong : K.lookup C_TooLong = some (excClassObj nm_TooLong q_TooLong C_TooLong N_TooLong bs_TooLong bm_TooLong true sn_TooLong sub_TooLong ab_TooLong col_TooLong dd_TooLong k0_TooLong k1_TooLong k2_TooLong k3_TooLong k5_TooLong "ValueError.__new__")) (r_TooLong : PySem.HandSPX.refsVE bm_TooLong = true)
    (sa_TooLong : PySem.W.findIn K (.ref C_TooLong) "__setattr__" = some (some (.builtin "object.__setattr__"))) (ex_TooLong : PySem.W.subIn K (.ref C_TooLong) (.type "BaseException") = some true)
    (ty_TooLong : PySem.W.typeIn K (.ref C_TooLong) = some (.type "type")) (k_TooLong : PySem.W.keepIn K (.ref C_TooLong) = true)
    {f_init_TooLong : Addr} {oc_init_TooLong kV_init_TooLong dc_init_TooLong pm_init_TooLong cd_init_TooLong ct_init_TooLong : Value} {od_init_TooLong an_init_TooLong : Option Addr} {sl_init_TooLong : Array (Option Value)}
    (l_init_TooLong : K.lookup f_init_TooLong = some ⟨oc_init_TooLong, od_init_TooLong, .func (PySem.W.fnOf "__init__" "TooLong.__init__" (defArgs s_init_TooLong) (defBody s_init_TooLong) (defScope s_init_TooLong) .none kV_init_TooLong dc_init_TooLong pm_init_TooLong an_init_TooLong cd_init_TooLong ct_init_TooLong), sl_init_TooLong⟩)
    (c_init_TooLong : PySem.W.codeIn K cd_init_TooLong "TooLong.__init__" = true) (k_init_TooLong : PySem.W.keepIn K (.ref f_init_TooLong) = true)
    (t_init_TooLong : PySem.W.typeIn K (.ref f_init_TooLong) = some (.type "function"))
    (i_TooLong : PySem.W.findIn K (.ref C_TooLong) "__init__" = some (some (.ref f_init_TooLong))) (v_TooLong : PySem.W.findIn K (.ref C_TooLong) "value" = some none)
    (ga_TooLong : PySem.W.findIn K (.ref C_TooLong) "__getattribute__" = some (some (.builtin "BaseException.__getattribute__")))
    (gg_TooLong : PySem.W.findIn K (.ref C_TooLong) "__getattr__" = some none)
    (hd_TooLong : PySem.W.hasDictIn K C_TooLong = true)
    (cl_TooLong : PySem.W.isClsIn K C_TooLong = true)
    (hc_TooLong : PySem.W.findIn K (.ref C_TooLong) "__class__" = some (some (.builtin "object.__class__")))
    (hn_TooLong : PySem.W.specialIn K (.builtin "object.__class__") "__get__" = some (some (.builtin "getset_descriptor.__get__")))
    (ht_TooLong : PySem.W.takesIn K (.builtin "object.__class__") = some true)
    (hm_TooLong : PySem.W.mroIn K C_TooLong (.type "object") = some true)
    {C_Finished : Addr} {nm_Finished : _} {q_Finished : _} {N_Finished : _} {bs_Finished : _} {bm_Finished : _} {sn_Finished : _} {sub_Finished : _} {ab_Finished : _} {col_Finished : _} {dd_Finished : _} {k0_Finished : _} {k1_Finished : _} {k2_Finished : _} {k3_Finished : _} {k5_Finished : _}
    (a_Finished : PySem.W.nsIn K mainGlobals "Finished" = some (some (.ref C_Finished)))
    (l_Finished : K.lookup C_Finished = some (excClassObj nm_Finished q_Finished C_Finished N_Finished bs_Finished bm_Finished true sn_Finished sub_Finished ab_Finished col_Finished dd_Finished k0_Finished k1_Finished k2_Finished k3_Finished k5_Finished "ValueError.__new__")) (r_Finished : PySem.HandSPX.refsVE bm_Finished = true)
    (sa_Finished : PySem.W.findIn K (.ref C_Finished) "__setattr__" = some (some (.builtin "object.__setattr__"))) (ex_Finished : PySem.W.subIn K (.ref C_Finished) (.type "BaseException") = some true)
    (ty_Finished : PySem.W.typeIn K (.ref C_Finished) = some (.type "type")) (k_Finished : PySem.W.keepIn K (.ref C_Finished) = true)
    {f_init_Finished : Addr} {oc_init_Finished kV_init_Finished dc_init_Finished pm_init_Finished cd_init_Finished ct_init_Finished : Value} {od_init_Finished an_init_Finished : Option Addr} {sl_init_Finished : Array (Option Value)}
    (l_init_Finished : K.lookup f_init_Finished = some ⟨oc_init_Finished, od_init_Finished, .func (PySem.W.fnOf "__init__" "Finished.__init__" (defArgs s_init_Finished) (defBody s_init_Finished) (defScope s_init_Finished) .none kV_init_Finished dc_init_Finished pm_init_Finished an_init_Finished cd_init_Finished ct_init_Finished), sl_init_Finished⟩)
    (c_init_Finished : PySem.W.codeIn K cd_init_Finished "Finished.__init__" = true) (k_init_Finished : PySem.W.keepIn K (.ref f_init_Finished) = true)
    (t_init_Finished : PySem.W.typeIn K (.ref f_init_Finished) = some (.type "function"))
    (i_Finished : PySem.W.findIn K (.ref C_Finished) "__init__" = some (some (.ref f_init_Finished))) (v_Finished : PySem.W.findIn K (.ref C_Finished) "value" = some none)
    (ga_Finished : PySem.W.findIn K (.ref C_Finished) "__getattribute__" = some (some (.builtin "BaseException.__getattribute__")))
    (gg_Finished : PySem.W.findIn K (.ref C_Finished) "__getattr__" = some none)
    (hd_Finished : PySem.W.hasDictIn K C_Finished = true)
    (cl_Finished : PySem.W.isClsIn K C_Finished = true)
    (hc_Finished : PySem.W.findIn K (.ref C_Finished) "__class__" = some (some (.builtin "object.__class__")))
    (hn_Finished : PySem.W.specialIn K (.builtin "object.__class__") "__get__" = some (some (.builtin "getset_descriptor.__get__")))
    (ht_Finished : PySem.W.takesIn K (.builtin "object.__class__") = some true)
    (hm_Finished : PySem.W.mroIn K C_Finished (.type "object") = some true)
    {C_NothingDone : Addr} {nm_NothingDone : _} {q_NothingDone : _} {N_NothingDone : _} {bs_NothingDone : _} {bm_NothingDone : _} {sn_NothingDone : _} {sub_NothingDone : _} {ab_NothingDone : _} {col_NothingDone : _} {dd_NothingDone : _} {k0_NothingDone : _} {k1_NothingDone : _} {k2_NothingDone : _} {k3_NothingDone : _} {k5_NothingDone : _}
    (a_NothingDone : PySem.W.nsIn K mainGlobals "NothingDone" = some (some (.ref C_NothingDone)))
    (l_NothingDone : K.lookup C_NothingDone = some (excClassObj nm_NothingDone q_NothingDone C_NothingDone N_NothingDone bs_NothingDone bm_NothingDone true sn_NothingDone sub_NothingDone ab_NothingDone col_NothingDone dd_NothingDone k0_NothingDone k1_NothingDone k2_NothingDone k3_NothingDone k5_NothingDone "ValueError.__new__")) (r_NothingDone : PySem.HandSPX.refsVE bm_NothingDone = true)
    (sa_NothingDone : PySem.W.findIn K (.ref C_NothingDone) "__setattr__" = some (some (.builtin "object.__setattr__"))) (ex_NothingDone : PySem.W.subIn K (.ref C_NothingDone) (.type "BaseException") = some true)
    (ty_NothingDone : PySem.W.typeIn K (.ref C_NothingDone) = some (.type "type")) (k_NothingDone : PySem.W.keepIn K (.ref C_NothingDone) = true)
    {f_init_NothingDone : Addr} {oc_init_NothingDone kV_init_NothingDone dc_init_NothingDone pm_init_NothingDone cd_init_NothingDone ct_init_NothingDone : Value} {od_init_NothingDone an_init_NothingDone : Option Addr} {sl_init_NothingDone : Array (Option Value)}
    (l_init_NothingDone : K.lookup f_init_NothingDone = some ⟨oc_init_NothingDone, od_init_NothingDone, .func (PySem.W.fnOf "__init__" "NothingDone.__init__" (defArgs s_init_NothingDone) (defBody s_init_NothingDone) (defScope s_init_NothingDone) .none kV_init_NothingDone dc_init_NothingDone pm_init_NothingDone an_init_NothingDone cd_init_NothingDone ct_init_NothingDone), sl_init_NothingDone⟩)
    (c_init_NothingDone : PySem.W.codeIn K cd_init_NothingDone "NothingDone.__init__" = true) (k_init_NothingDone : PySem.W.keepIn K (.ref f_init_NothingDone) = true)
    (t_init_NothingDone : PySem.W.typeIn K (.ref f_init_NothingDone) = some (.type "function"))
    (i_NothingDone : PySem.W.findIn K (.ref C_NothingDone) "__init__" = some (some (.ref f_init_NothingDone))) (v_NothingDone : PySem.W.findIn K (.ref C_NothingDone) "value" = some none)
    (ga_NothingDone : PySem.W.findIn K (.ref C_NothingDone) "__getattribute__" = some (some (.builtin "BaseException.__getattribute__")))
    (gg_NothingDone : PySem.W.findIn K (.ref C_NothingDone) "__getattr__" = some none)
    (hd_NothingDone : PySem.W.hasDictIn K C_NothingDone = true)
    (cl_NothingDone : PySem.W.isClsIn K C_NothingDone = true)
    (hc_NothingDone : PySem.W.findIn K (.ref C_NothingDone) "__class__" = some (some (.builtin "object.__class__")))
    (hn_NothingDone : PySem.W.specialIn K (.builtin "object.__class__") "__get__" = some (some (.builtin "getset_descriptor.__get__")))
    (ht_NothingDone : PySem.W.takesIn K (.builtin "object.__class__") = some true)
    (hm_NothingDone : PySem.W.mroIn K C_NothingDone (.type "object") = some true)
    (z_len : PySem.W.nsIn K mainGlobals "len" = some none)
    (z_int : PySem.W.nsIn K mainGlobals "int" = some none)
    (z_bool : PySem.W.nsIn K mainGlobals "bool" = some none)
    (z_str : PySem.W.nsIn K mainGlobals "str" = some none)
    (z_list : PySem.W.nsIn K mainGlobals "list" = some none)
    (z_tuple : PySem.W.nsIn K mainGlobals "tuple" = some none)
    (z_dict : PySem.W.nsIn K mainGlobals "dict" = some none)
    (z_range : PySem.W.nsIn K mainGlobals "range" = some none)
    (z_enumerate : PySem.W.nsIn K mainGlobals "enumerate" = some none)
    (z_isinstance : PySem.W.nsIn K mainGlobals "isinstance" = some none)
    (z_repr : PySem.W.nsIn K mainGlobals "repr" = some none)
    (z_ValueError : PySem.W.nsIn K mainGlobals "ValueError" = some none)
    (rd : PySem.W.readsIn K C_MadeError (.type "type") = true)
    (sg : PySem.W.specialIn K (.ref C_MadeError) "__getattribute__" = some (some (.builtin "type.__getattribute__")))
    (fc : PySem.W.findCls K (.ref C_MadeError) (.type "type") "__init__" = some (.val (.ref f_init)))
    (kitT : kitTab K [C_BadBook, C_BadClaim, C_BadClaims, C_BadCount, C_BadFlag, C_BadForm, C_BadKept, C_BadName, C_BadOthers, C_BadParts, C_BadPlace, C_BadPlanned, C_BadRow, C_BadRule, C_BadSign, C_BadText, C_BadThing, C_BadWord, C_BadWorld, C_NoPaper, C_Clashes, C_Finished, C_NothingDone, C_TooLong, C_TooMany] C_MadeError = true)
    {f_law_tape : Addr} {oc_law_tape kV_law_tape dc_law_tape pm_law_tape cd_law_tape ct_law_tape : Value} {od_law_tape an_law_tape : Option Addr} {sl_law_tape : Array (Option Value)}
    (a_law_tape : PySem.W.nsIn K mainGlobals "_law_tape" = some (some (.ref f_law_tape)))
    (l_law_tape : K.lookup f_law_tape = some ⟨oc_law_tape, od_law_tape, .func (PySem.W.fnOf "_law_tape" "_law_tape" (defArgs s_law_tape) (defBody s_law_tape) (defScope s_law_tape) .none kV_law_tape dc_law_tape pm_law_tape an_law_tape cd_law_tape ct_law_tape), sl_law_tape⟩)
    (c_law_tape : PySem.W.codeIn K cd_law_tape "_law_tape" = true) (k_law_tape : PySem.W.keepIn K (.ref f_law_tape) = true)
    {f_law_pick : Addr} {oc_law_pick kV_law_pick dc_law_pick pm_law_pick cd_law_pick ct_law_pick : Value} {od_law_pick an_law_pick : Option Addr} {sl_law_pick : Array (Option Value)}
    (a_law_pick : PySem.W.nsIn K mainGlobals "_law_pick" = some (some (.ref f_law_pick)))
    (l_law_pick : K.lookup f_law_pick = some ⟨oc_law_pick, od_law_pick, .func (PySem.W.fnOf "_law_pick" "_law_pick" (defArgs s_law_pick) (defBody s_law_pick) (defScope s_law_pick) .none kV_law_pick dc_law_pick pm_law_pick an_law_pick cd_law_pick ct_law_pick), sl_law_pick⟩)
    (c_law_pick : PySem.W.codeIn K cd_law_pick "_law_pick" = true) (k_law_pick : PySem.W.keepIn K (.ref f_law_pick) = true)
    {f_law_odd : Addr} {oc_law_odd kV_law_odd dc_law_odd pm_law_odd cd_law_odd ct_law_odd : Value} {od_law_odd an_law_odd : Option Addr} {sl_law_odd : Array (Option Value)}
    (a_law_odd : PySem.W.nsIn K mainGlobals "_law_odd" = some (some (.ref f_law_odd)))
    (l_law_odd : K.lookup f_law_odd = some ⟨oc_law_odd, od_law_odd, .func (PySem.W.fnOf "_law_odd" "_law_odd" (defArgs s_law_odd) (defBody s_law_odd) (defScope s_law_odd) .none kV_law_odd dc_law_odd pm_law_odd an_law_odd cd_law_odd ct_law_odd), sl_law_odd⟩)
    (c_law_odd : PySem.W.codeIn K cd_law_odd "_law_odd" = true) (k_law_odd : PySem.W.keepIn K (.ref f_law_odd) = true)
    {f_law_made : Addr} {oc_law_made kV_law_made dc_law_made pm_law_made cd_law_made ct_law_made : Value} {od_law_made an_law_made : Option Addr} {sl_law_made : Array (Option Value)}
    (a_law_made : PySem.W.nsIn K mainGlobals "_law_made" = some (some (.ref f_law_made)))
    (l_law_made : K.lookup f_law_made = some ⟨oc_law_made, od_law_made, .func (PySem.W.fnOf "_law_made" "_law_made" (defArgs s_law_made) (defBody s_law_made) (defScope s_law_made) .none kV_law_made dc_law_made pm_law_made an_law_made cd_law_made ct_law_made), sl_law_made⟩)
    (c_law_made : PySem.W.codeIn K cd_law_made "_law_made" = true) (k_law_made : PySem.W.keepIn K (.ref f_law_made) = true)
    {f_law_kinds : Addr} {oc_law_kinds kV_law_kinds dc_law_kinds pm_law_kinds cd_law_kinds ct_law_kinds : Value} {od_law_kinds an_law_kinds : Option Addr} {sl_law_kinds : Array (Option Value)}
    (a_law_kinds : PySem.W.nsIn K mainGlobals "_law_kinds" = some (some (.ref f_law_kinds)))
    (l_law_kinds : K.lookup f_law_kinds = some ⟨oc_law_kinds, od_law_kinds, .func (PySem.W.fnOf "_law_kinds" "_law_kinds" (defArgs s_law_kinds) (defBody s_law_kinds) (defScope s_law_kinds) .none kV_law_kinds dc_law_kinds pm_law_kinds an_law_kinds cd_law_kinds ct_law_kinds), sl_law_kinds⟩)
    (c_law_kinds : PySem.W.codeIn K cd_law_kinds "_law_kinds" = true) (k_law_kinds : PySem.W.keepIn K (.ref f_law_kinds) = true)
    {f_law_right : Addr} {oc_law_right kV_law_right dc_law_right pm_law_right cd_law_right ct_law_right : Value} {od_law_right an_law_right : Option Addr} {sl_law_right : Array (Option Value)}
    (a_law_right : PySem.W.nsIn K mainGlobals "_law_right" = some (some (.ref f_law_right)))
    (l_law_right : K.lookup f_law_right = some ⟨oc_law_right, od_law_right, .func (PySem.W.fnOf "_law_right" "_law_right" (defArgs s_law_right) (defBody s_law_right) (defScope s_law_right) .none kV_law_right dc_law_right pm_law_right an_law_right cd_law_right ct_law_right), sl_law_right⟩)
    (c_law_right : PySem.W.codeIn K cd_law_right "_law_right" = true) (k_law_right : PySem.W.keepIn K (.ref f_law_right) = true)
    {f_law : Addr} {oc_law kV_law dc_law pm_law cd_law ct_law : Value} {od_law an_law : Option Addr} {sl_law : Array (Option Value)}
    (a_law : PySem.W.nsIn K mainGlobals "law" = some (some (.ref f_law)))
    (l_law : K.lookup f_law = some ⟨oc_law, od_law, .func (PySem.W.fnOf "law" "law" (defArgs s_law) (defBody s_law) (defScope s_law) .none kV_law dc_law pm_law an_law cd_law ct_law), sl_law⟩)
    (c_law : PySem.W.codeIn K cd_law "law" = true) (k_law : PySem.W.keepIn K (.ref f_law) = true) :
    ∃ fd : FuncData, (∀ (s : Shared) (v : Value), BindsTo s fd ⟨[v], []⟩ [("script", v)]) ∧ ∀ base : Heap, K.In base → base.Ns mainGlobals mg → FnG l.prog w K mg base 6 fa fd ["script"] (spLaw K) := by
  have e := hfa.symm.trans (PySem.W.mg_of X G a_law)
  cases e
  have T : Tx K mg f_init C_MadeError C_BadName C_BadRow C_BadThing C_BadForm C_BadSign C_BadRule C_BadText C_BadParts C_BadOthers C_BadCount C_BadBook C_BadFlag C_BadPlace C_BadClaim C_BadWorld C_BadKept C_BadWord C_NoPaper C_BadPlanned C_BadClaims C_Clashes C_TooMany C_TooLong C_Finished C_NothingDone f_init_Clashes f_init_Finished f_init_NothingDone f_init_TooLong f_init_TooMany := ⟨⟨PySem.W.mg_none_of X G z_len, PySem.W.mg_none_of X G z_int, PySem.W.mg_none_of X G z_bool, PySem.W.mg_none_of X G z_str, PySem.W.mg_none_of X G z_list, PySem.W.mg_none_of X G z_tuple, PySem.W.mg_none_of X G z_dict, PySem.W.mg_none_of X G z_range, PySem.W.mg_none_of X G z_enumerate, PySem.W.mg_none_of X G z_isinstance, PySem.W.mg_none_of X G z_repr, PySem.W.mg_none_of X G z_ValueError⟩, ⟨PySem.W.mg_of X G a_MadeError, ⟨⟨_, _, _, _, _, _, _, _, _, _, _, _, _, _, _, l_MadeError, r_MadeError⟩, sa_MadeError, ex_MadeError, ty_MadeError, k_MadeError⟩, i_MadeError, v_MadeError⟩, ⟨⟨ga_MadeError, gg_MadeError, ex_MadeError, hd_MadeError⟩, cl_MadeError, hc_MadeError, hn_MadeError, ht_MadeError, hm_MadeError, v_MadeError⟩, ⟨PySem.W.mg_of X G a_BadName, ⟨⟨_, _, _, _, _, _, _, _, _, _, _, _, _, _, _, l_BadName, r_BadName⟩, sa_BadName, ex_BadName, ty_BadName, k_BadName⟩, i_BadName, v_BadName⟩, ⟨⟨ga_BadName, gg_BadName, ex_BadName, hd_BadName⟩, cl_BadName, hc_BadName, hn_BadName, ht_BadName, hm_BadName, v_BadName⟩, ⟨PySem.W.mg_of X G a_BadRow, ⟨⟨_, _, _, _, _, _, _, _, _, _, _, _, _, _, _, l_BadRow, r_BadRow⟩, sa_BadRow, ex_BadRow, ty_BadRow, k_BadRow⟩, i_BadRow, v_BadRow⟩, ⟨⟨ga_BadRow, gg_BadRow, ex_BadRow, hd_BadRow⟩, cl_BadRow, hc_BadRow, hn_BadRow, ht_BadRow, hm_BadRow, v_BadRow⟩, ⟨PySem.W.mg_of X G a_BadThing, ⟨⟨_, _, _, _, _, _, _, _, _, _, _, _, _, _, _, l_BadThing, r_BadThing⟩, sa_BadThing, ex_BadThing, ty_BadThing, k_BadThing⟩, i_BadThing, v_BadThing⟩, ⟨⟨ga_BadThing, gg_BadThing, ex_BadThing, hd_BadThing⟩, cl_BadThing, hc_BadThing, hn_BadThing, ht_BadThing, hm_BadThing, v_BadThing⟩, ⟨PySem.W.mg_of X G a_BadForm, ⟨⟨_, _, _, _, _, _, _, _, _, _, _, _, _, _, _, l_BadForm, r_BadForm⟩, sa_BadForm, ex_BadForm, ty_BadForm, k_BadForm⟩, i_BadForm, v_BadForm⟩, ⟨⟨ga_BadForm, gg_BadForm, ex_BadForm, hd_BadForm⟩, cl_BadForm, hc_BadForm, hn_BadForm, ht_BadForm, hm_BadForm, v_BadForm⟩, ⟨PySem.W.mg_of X G a_BadSign, ⟨⟨_, _, _, _, _, _, _, _, _, _, _, _, _, _, _, l_BadSign, r_BadSign⟩, sa_BadSign, ex_BadSign, ty_BadSign, k_BadSign⟩, i_BadSign, v_BadSign⟩, ⟨⟨ga_BadSign, gg_BadSign, ex_BadSign, hd_BadSign⟩, cl_BadSign, hc_BadSign, hn_BadSign, ht_BadSign, hm_BadSign, v_BadSign⟩, ⟨PySem.W.mg_of X G a_BadRule, ⟨⟨_, _, _, _, _, _, _, _, _, _, _, _, _, _, _, l_BadRule, r_BadRule⟩, sa_BadRule, ex_BadRule, ty_BadRule, k_BadRule⟩, i_BadRule, v_BadRule⟩, ⟨⟨ga_BadRule, gg_BadRule, ex_BadRule, hd_BadRule⟩, cl_BadRule, hc_BadRule, hn_BadRule, ht_BadRule, hm_BadRule, v_BadRule⟩, ⟨PySem.W.mg_of X G a_BadText, ⟨⟨_, _, _, _, _, _, _, _, _, _, _, _, _, _, _, l_BadText, r_BadText⟩, sa_BadText, ex_BadText, ty_BadText, k_BadText⟩, i_BadText, v_BadText⟩, ⟨⟨ga_BadText, gg_BadText, ex_BadText, hd_BadText⟩, cl_BadText, hc_BadText, hn_BadText, ht_BadText, hm_BadText, v_BadText⟩, ⟨PySem.W.mg_of X G a_BadParts, ⟨⟨_, _, _, _, _, _, _, _, _, _, _, _, _, _, _, l_BadParts, r_BadParts⟩, sa_BadParts, ex_BadParts, ty_BadParts, k_BadParts⟩, i_BadParts, v_BadParts⟩, ⟨⟨ga_BadParts, gg_BadParts, ex_BadParts, hd_BadParts⟩, cl_BadParts, hc_BadParts, hn_BadParts, ht_BadParts, hm_BadParts, v_BadParts⟩, ⟨PySem.W.mg_of X G a_BadOthers, ⟨⟨_, _, _, _, _, _, _, _, _, _, _, _, _, _, _, l_BadOthers, r_BadOthers⟩, sa_BadOthers, ex_BadOthers, ty_BadOthers, k_BadOthers⟩, i_BadOthers, v_BadOthers⟩, ⟨⟨ga_BadOthers, gg_BadOthers, ex_BadOthers, hd_BadOthers⟩, cl_BadOthers, hc_BadOthers, hn_BadOthers, ht_BadOthers, hm_BadOthers, v_BadOthers⟩, ⟨PySem.W.mg_of X G a_BadCount, ⟨⟨_, _, _, _, _, _, _, _, _, _, _, _, _, _, _, l_BadCount, r_BadCount⟩, sa_BadCount, ex_BadCount, ty_BadCount, k_BadCount⟩, i_BadCount, v_BadCount⟩, ⟨⟨ga_BadCount, gg_BadCount, ex_BadCount, hd_BadCount⟩, cl_BadCount, hc_BadCount, hn_BadCount, ht_BadCount, hm_BadCount, v_BadCount⟩, ⟨PySem.W.mg_of X G a_BadBook, ⟨⟨_, _, _, _, _, _, _, _, _, _, _, _, _, _, _, l_BadBook, r_BadBook⟩, sa_BadBook, ex_BadBook, ty_BadBook, k_BadBook⟩, i_BadBook, v_BadBook⟩, ⟨⟨ga_BadBook, gg_BadBook, ex_BadBook, hd_BadBook⟩, cl_BadBook, hc_BadBook, hn_BadBook, ht_BadBook, hm_BadBook, v_BadBook⟩, ⟨PySem.W.mg_of X G a_BadFlag, ⟨⟨_, _, _, _, _, _, _, _, _, _, _, _, _, _, _, l_BadFlag, r_BadFlag⟩, sa_BadFlag, ex_BadFlag, ty_BadFlag, k_BadFlag⟩, i_BadFlag, v_BadFlag⟩, ⟨⟨ga_BadFlag, gg_BadFlag, ex_BadFlag, hd_BadFlag⟩, cl_BadFlag, hc_BadFlag, hn_BadFlag, ht_BadFlag, hm_BadFlag, v_BadFlag⟩, ⟨PySem.W.mg_of X G a_BadPlace, ⟨⟨_, _, _, _, _, _, _, _, _, _, _, _, _, _, _, l_BadPlace, r_BadPlace⟩, sa_BadPlace, ex_BadPlace, ty_BadPlace, k_BadPlace⟩, i_BadPlace, v_BadPlace⟩, ⟨⟨ga_BadPlace, gg_BadPlace, ex_BadPlace, hd_BadPlace⟩, cl_BadPlace, hc_BadPlace, hn_BadPlace, ht_BadPlace, hm_BadPlace, v_BadPlace⟩, ⟨PySem.W.mg_of X G a_BadClaim, ⟨⟨_, _, _, _, _, _, _, _, _, _, _, _, _, _, _, l_BadClaim, r_BadClaim⟩, sa_BadClaim, ex_BadClaim, ty_BadClaim, k_BadClaim⟩, i_BadClaim, v_BadClaim⟩, ⟨⟨ga_BadClaim, gg_BadClaim, ex_BadClaim, hd_BadClaim⟩, cl_BadClaim, hc_BadClaim, hn_BadClaim, ht_BadClaim, hm_BadClaim, v_BadClaim⟩, ⟨PySem.W.mg_of X G a_BadWorld, ⟨⟨_, _, _, _, _, _, _, _, _, _, _, _, _, _, _, l_BadWorld, r_BadWorld⟩, sa_BadWorld, ex_BadWorld, ty_BadWorld, k_BadWorld⟩, i_BadWorld, v_BadWorld⟩, ⟨⟨ga_BadWorld, gg_BadWorld, ex_BadWorld, hd_BadWorld⟩, cl_BadWorld, hc_BadWorld, hn_BadWorld, ht_BadWorld, hm_BadWorld, v_BadWorld⟩, ⟨PySem.W.mg_of X G a_BadKept, ⟨⟨_, _, _, _, _, _, _, _, _, _, _, _, _, _, _, l_BadKept, r_BadKept⟩, sa_BadKept, ex_BadKept, ty_BadKept, k_BadKept⟩, i_BadKept, v_BadKept⟩, ⟨⟨ga_BadKept, gg_BadKept, ex_BadKept, hd_BadKept⟩, cl_BadKept, hc_BadKept, hn_BadKept, ht_BadKept, hm_BadKept, v_BadKept⟩, ⟨PySem.W.mg_of X G a_BadWord, ⟨⟨_, _, _, _, _, _, _, _, _, _, _, _, _, _, _, l_BadWord, r_BadWord⟩, sa_BadWord, ex_BadWord, ty_BadWord, k_BadWord⟩, i_BadWord, v_BadWord⟩, ⟨⟨ga_BadWord, gg_BadWord, ex_BadWord, hd_BadWord⟩, cl_BadWord, hc_BadWord, hn_BadWord, ht_BadWord, hm_BadWord, v_BadWord⟩, ⟨PySem.W.mg_of X G a_NoPaper, ⟨⟨_, _, _, _, _, _, _, _, _, _, _, _, _, _, _, l_NoPaper, r_NoPaper⟩, sa_NoPaper, ex_NoPaper, ty_NoPaper, k_NoPaper⟩, i_NoPaper, v_NoPaper⟩, ⟨⟨ga_NoPaper, gg_NoPaper, ex_NoPaper, hd_NoPaper⟩, cl_NoPaper, hc_NoPaper, hn_NoPaper, ht_NoPaper, hm_NoPaper, v_NoPaper⟩, ⟨PySem.W.mg_of X G a_BadPlanned, ⟨⟨_, _, _, _, _, _, _, _, _, _, _, _, _, _, _, l_BadPlanned, r_BadPlanned⟩, sa_BadPlanned, ex_BadPlanned, ty_BadPlanned, k_BadPlanned⟩, i_BadPlanned, v_BadPlanned⟩, ⟨⟨ga_BadPlanned, gg_BadPlanned, ex_BadPlanned, hd_BadPlanned⟩, cl_BadPlanned, hc_BadPlanned, hn_BadPlanned, ht_BadPlanned, hm_BadPlanned, v_BadPlanned⟩, ⟨PySem.W.mg_of X G a_BadClaims, ⟨⟨_, _, _, _, _, _, _, _, _, _, _, _, _, _, _, l_BadClaims, r_BadClaims⟩, sa_BadClaims, ex_BadClaims, ty_BadClaims, k_BadClaims⟩, i_BadClaims, v_BadClaims⟩, ⟨⟨ga_BadClaims, gg_BadClaims, ex_BadClaims, hd_BadClaims⟩, cl_BadClaims, hc_BadClaims, hn_BadClaims, ht_BadClaims, hm_BadClaims, v_BadClaims⟩, ⟨PySem.W.mg_of X G a_Clashes, ⟨⟨_, _, _, _, _, _, _, _, _, _, _, _, _, _, _, l_Clashes, r_Clashes⟩, sa_Clashes, ex_Clashes, ty_Clashes, k_Clashes⟩, i_Clashes, v_Clashes⟩, ⟨⟨ga_Clashes, gg_Clashes, ex_Clashes, hd_Clashes⟩, cl_Clashes, hc_Clashes, hn_Clashes, ht_Clashes, hm_Clashes, v_Clashes⟩, ⟨PySem.W.mg_of X G a_TooMany, ⟨⟨_, _, _, _, _, _, _, _, _, _, _, _, _, _, _, l_TooMany, r_TooMany⟩, sa_TooMany, ex_TooMany, ty_TooMany, k_TooMany⟩, i_TooMany, v_TooMany⟩, ⟨⟨ga_TooMany, gg_TooMany, ex_TooMany, hd_TooMany⟩, cl_TooMany, hc_TooMany, hn_TooMany, ht_TooMany, hm_TooMany, v_TooMany⟩, ⟨PySem.W.mg_of X G a_TooLong, ⟨⟨_, _, _, _, _, _, _, _, _, _, _, _, _, _, _, l_TooLong, r_TooLong⟩, sa_TooLong, ex_TooLong, ty_TooLong, k_TooLong⟩, i_TooLong, v_TooLong⟩, ⟨⟨ga_TooLong, gg_TooLong, ex_TooLong, hd_TooLong⟩, cl_TooLong, hc_TooLong, hn_TooLong, ht_TooLong, hm_TooLong, v_TooLong⟩, ⟨PySem.W.mg_of X G a_Finished, ⟨⟨_, _, _, _, _, _, _, _, _, _, _, _, _, _, _, l_Finished, r_Finished⟩, sa_Finished, ex_Finished, ty_Finished, k_Finished⟩, i_Finished, v_Finished⟩, ⟨⟨ga_Finished, gg_Finished, ex_Finished, hd_Finished⟩, cl_Finished, hc_Finished, hn_Finished, ht_Finished, hm_Finished, v_Finished⟩, ⟨PySem.W.mg_of X G a_NothingDone, ⟨⟨_, _, _, _, _, _, _, _, _, _, _, _, _, _, _, l_NothingDone, r_NothingDone⟩, sa_NothingDone, ex_NothingDone, ty_NothingDone, k_NothingDone⟩, i_NothingDone, v_NothingDone⟩, ⟨⟨ga_NothingDone, gg_NothingDone, ex_NothingDone, hd_NothingDone⟩, cl_NothingDone, hc_NothingDone, hn_NothingDone, ht_NothingDone, hm_NothingDone, v_NothingDone⟩, (kitTab_ok kitT).1, (kitTab_ok kitT).2.1, (kitTab_ok kitT).2.2⟩
  have F_init := fun_mk (x := "__init__") (qual := "MadeError.__init__") (st := s_init) l_init c_init k_init
  have b_init := F_init.binds (ps := ["self", "value"]) fun _ _ _ _ _ _ us hl => match us, hl with | [_, _], _ => rfl
  have D_law_tape : Dx K mg "_law_tape" s_law_tape ["script"] := dx_mk X G a_law_tape l_law_tape c_law_tape k_law_tape fun _ _ _ _ _ _ us hl => match us, hl with | [_], _ => rfl
  have D_law_pick : Dx K mg "_law_pick" s_law_pick ["tape", "size"] := dx_mk X G a_law_pick l_law_pick c_law_pick k_law_pick fun _ _ _ _ _ _ us hl => match us, hl with | [_, _], _ => rfl
  have D_law_odd : Dx K mg "_law_odd" s_law_odd ["tape"] := dx_mk X G a_law_odd l_law_odd c_law_odd k_law_odd fun _ _ _ _ _ _ us hl => match us, hl with | [_], _ => rfl
  have D_law_made : Dx K mg "_law_made" s_law_made ["kind", "value"] := dx_mk X G a_law_made l_law_made c_law_made k_law_made fun _ _ _ _ _ _ us hl => match us, hl with | [_, _], _ => rfl
  have D_law_kinds : Dx K mg "_law_kinds" s_law_kinds ["error"] := dx_mk X G a_law_kinds l_law_kinds c_law_kinds k_law_kinds fun _ _ _ _ _ _ us hl => match us, hl with | [_], _ => rfl
  have D_law_right : Dx K mg "_law_right" s_law_right ["kind", "value"] := dx_mk X G a_law_right l_law_right c_law_right k_law_right fun _ _ _ _ _ _ us hl => match us, hl with | [_, _], _ => rfl
  have F_law := fun_mk (x := "law") (qual := "law") (st := s_law) l_law c_law k_law
  refine ⟨PySem.W.fnOf "law" "law" (defArgs s_law) (defBody s_law) (defScope s_law) .none kV_law dc_law pm_law an_law cd_law ct_law, fun s v => .of_eq rfl, fun base KB GB => ?_⟩
  have C_init : InitOk l.prog w K mg base 1 f_init := ⟨t_init, _, b_init, ok_init F_init⟩
  have F_init_Clashes := fun_mk (x := "__init__") (qual := "Clashes.__init__") (st := s_init_Clashes) l_init_Clashes c_init_Clashes k_init_Clashes
  have b_init_Clashes := F_init_Clashes.binds (ps := ["self"]) fun _ _ _ _ _ _ us hl => match us, hl with | [_], _ => rfl
  have I_Clashes : InitOk0 l.prog w K mg base 2 f_init_Clashes := ⟨t_init_Clashes, _, b_init_Clashes, ok_init_Clashes F_init_Clashes ⟨rd, sg⟩ fc (ok_init F_init) k_init b_init T.x_MadeError.g⟩
  have F_init_Finished := fun_mk (x := "__init__") (qual := "Finished.__init__") (st := s_init_Finished) l_init_Finished c_init_Finished k_init_Finished
  have b_init_Finished := F_init_Finished.binds (ps := ["self"]) fun _ _ _ _ _ _ us hl => match us, hl with | [_], _ => rfl
  have I_Finished : InitOk0 l.prog w K mg base 2 f_init_Finished := ⟨t_init_Finished, _, b_init_Finished, ok_init_Finished F_init_Finished ⟨rd, sg⟩ fc (ok_init F_init) k_init b_init T.x_MadeError.g⟩
  have F_init_NothingDone := fun_mk (x := "__init__") (qual := "NothingDone.__init__") (st := s_init_NothingDone) l_init_NothingDone c_init_NothingDone k_init_NothingDone
  have b_init_NothingDone := F_init_NothingDone.binds (ps := ["self"]) fun _ _ _ _ _ _ us hl => match us, hl with | [_], _ => rfl
  have I_NothingDone : InitOk0 l.prog w K mg base 2 f_init_NothingDone := ⟨t_init_NothingDone, _, b_init_NothingDone, ok_init_NothingDone F_init_NothingDone ⟨rd, sg⟩ fc (ok_init F_init) k_init b_init T.x_MadeError.g⟩
  have F_init_TooLong := fun_mk (x := "__init__") (qual := "TooLong.__init__") (st := s_init_TooLong) l_init_TooLong c_init_TooLong k_init_TooLong
  have b_init_TooLong := F_init_TooLong.binds (ps := ["self"]) fun _ _ _ _ _ _ us hl => match us, hl with | [_], _ => rfl
  have I_TooLong : InitOk0 l.prog w K mg base 2 f_init_TooLong := ⟨t_init_TooLong, _, b_init_TooLong, ok_init_TooLong F_init_TooLong ⟨rd, sg⟩ fc (ok_init F_init) k_init b_init T.x_MadeError.g⟩
  have F_init_TooMany := fun_mk (x := "__init__") (qual := "TooMany.__init__") (st := s_init_TooMany) l_init_TooMany c_init_TooMany k_init_TooMany
  have b_init_TooMany := F_init_TooMany.binds (ps := ["self"]) fun _ _ _ _ _ _ us hl => match us, hl with | [_], _ => rfl
  have I_TooMany : InitOk0 l.prog w K mg base 2 f_init_TooMany := ⟨t_init_TooMany, _, b_init_TooMany, ok_init_TooMany F_init_TooMany ⟨rd, sg⟩ fc (ok_init F_init) k_init b_init T.x_MadeError.g⟩
  have C_law_tape : Pr l.prog w K mg base 1 "_law_tape" ["script"] (spTape K) := ok_law_tape T D_law_tape 
  have C_law_pick : Pr l.prog w K mg base 1 "_law_pick" ["tape", "size"] spPick := ok_law_pick T D_law_pick 
  have C_law_odd : Pr l.prog w K mg base 2 "_law_odd" ["tape"] (spOdd K) := ok_law_odd T D_law_odd C_law_pick
  have C_law_made : Pr l.prog w K mg base 4 "_law_made" ["kind", "value"] (spMade K [C_BadBook, C_BadClaim, C_BadClaims, C_BadCount, C_BadFlag, C_BadForm, C_BadKept, C_BadName, C_BadOthers, C_BadParts, C_BadPlace, C_BadPlanned, C_BadRow, C_BadRule, C_BadSign, C_BadText, C_BadThing, C_BadWord, C_BadWorld, C_NoPaper, C_Clashes, C_Finished, C_NothingDone, C_TooLong, C_TooMany]) := ok_law_made T D_law_made C_init I_Clashes I_Finished I_NothingDone I_TooLong I_TooMany
  have C_law_kinds : Pr l.prog w K mg base 1 "_law_kinds" ["error"] (spKinds K [C_BadBook, C_BadClaim, C_BadClaims, C_BadCount, C_BadFlag, C_BadForm, C_BadKept, C_BadName, C_BadOthers, C_BadParts, C_BadPlace, C_BadPlanned, C_BadRow, C_BadRule, C_BadSign, C_BadText, C_BadThing, C_BadWord, C_BadWorld, C_NoPaper, C_Clashes, C_Finished, C_NothingDone, C_TooLong, C_TooMany]) := ok_law_kinds T D_law_kinds 
  have C_law_right : PrG l.prog w K mg base 5 "_law_right" ["kind", "value"] (spRight K) := ok_law_right T D_law_right C_law_made C_law_kinds
  exact ok_law T F_law C_law_tape C_law_pick C_law_odd C_law_right
theorem walk {l : PySem.W.OpenLaw} {q : Program} {loose : List Str} {XP : (Str → Option Value) → Heap → Prop} {YP : World → Heap → Prop} {d : DefRec} {K : Params → PySem.W.Frag} (hn : l.most = some 63) (hdf : d.params.defaults = [])
    (hY : ∀ (w : World) (h : Heap), YP w h → (K w.params).In h)
    (F : ∀ (w : World) (mg : Str → Option Value) (fa : Addr) (h : Heap), (K w.params).In h → h.Ns mainGlobals mg → mg d.name = some (.ref fa) →
      ∃ fd : FuncData, (∀ (s : Shared) (u : Value), BindsTo s fd ⟨[u], []⟩ [("script", u)]) ∧ ∀ base : Heap, (K w.params).In base → base.Ns mainGlobals mg → FnG l.prog w (K w.params) mg base 6 fa fd ["script"] (spLaw (K w.params))) :
    PySem.W.WalkO q loose XP YP l.row.toRowW d [] (fun f vs => PySem.call f vs) :=
  walk_ofG (n := 63) (k := 6) (x := "script") (sp := fun w => spLaw (K w.params)) hn (by decide) hdf ⟨rfl, by decide, by decide⟩ hY F (fun _ _ a ns hl _ _ hS => ⟨a, ns, rfl, hS, hl, fun _ => rfl⟩)
end My

open PySem PySem.W PyProof.Rows in
set_option maxRecDepth 100000 in
set_option maxHeartbeats 0 in
theorem PySem.Challenge.cw_trulymade_k03_errors_apart_holds : PySem.Challenge.rw_trulymade_k03_errors_apart.Holds := by
  w_on; o_law; k_head; (case hw => w_witness2)
  k_fill
  refine My.walk (l := PySem.Challenge.rw_trulymade_k03_errors_apart) rfl rfl (fun w h Y => PySem.W.kIn_of Y) ?F
  case F =>
    intro w mg fa h KX G hmg
    refine' My.all_mk KX G hmg ?a_MadeError ?l_MadeError ?r_MadeError ?sa_MadeError ?ex_MadeError ?ty_MadeError ?k_MadeError ?l_init ?c_init ?k_init ?t_init ?i_MadeError ?v_MadeError ?ga_MadeError ?gg_MadeError ?hd_MadeError ?cl_MadeError ?hc_MadeError ?hn_MadeError ?ht_MadeError ?hm_MadeError ?a_BadName ?l_BadName ?r_BadName ?sa_BadName ?ex_BadName ?ty_BadName ?k_BadName ?i_BadName ?v_BadName ?ga_BadName ?gg_BadName ?hd_BadName ?cl_BadName ?hc_BadName ?hn_BadName ?ht_BadName ?hm_BadName ?a_BadRow ?l_BadRow ?r_BadRow ?sa_BadRow ?ex_BadRow ?ty_BadRow ?k_BadRow ?i_BadRow ?v_BadRow ?ga_BadRow ?gg_BadRow ?hd_BadRow ?cl_BadRow ?hc_BadRow ?hn_BadRow ?ht_BadRow ?hm_BadRow ?a_BadThing ?l_BadThing ?r_BadThing ?sa_BadThing ?ex_BadThing ?ty_BadThing ?k_BadThing ?i_BadThing ?v_BadThing ?ga_BadThing ?gg_BadThing ?hd_BadThing ?cl_BadThing ?hc_BadThing ?hn_BadThing ?ht_BadThing ?hm_BadThing ?a_BadForm ?l_BadForm ?r_BadForm ?sa_BadForm ?ex_BadForm ?ty_BadForm ?k_BadForm ?i_BadForm ?v_BadForm ?ga_BadForm ?gg_BadForm ?hd_BadForm ?cl_BadForm ?hc_BadForm ?hn_BadForm ?ht_BadForm ?hm_BadForm ?a_BadSign ?l_BadSign ?r_BadSign ?sa_BadSign ?ex_BadSign ?ty_BadSign ?k_BadSign ?i_BadSign ?v_BadSign ?ga_BadSign ?gg_BadSign ?hd_BadSign ?cl_BadSign ?hc_BadSign ?hn_BadSign ?ht_BadSign ?hm_BadSign ?a_BadRule ?l_BadRule ?r_BadRule ?sa_BadRule ?ex_BadRule ?ty_BadRule ?k_BadRule ?i_BadRule ?v_BadRule ?ga_BadRule ?gg_BadRule ?hd_BadRule ?cl_BadRule ?hc_BadRule ?hn_BadRule ?ht_BadRule ?hm_BadRule ?a_BadText ?l_BadText ?r_BadText ?sa_BadText ?ex_BadText ?ty_BadText ?k_BadText ?i_BadText ?v_BadText ?ga_BadText ?gg_BadText ?hd_BadText ?cl_BadText ?hc_BadText ?hn_BadText ?ht_BadText ?hm_BadText ?a_BadParts ?l_BadParts ?r_BadParts ?sa_BadParts ?ex_BadParts ?ty_BadParts ?k_BadParts ?i_BadParts ?v_BadParts ?ga_BadParts ?gg_BadParts ?hd_BadParts ?cl_BadParts ?hc_BadParts ?hn_BadParts ?ht_BadParts ?hm_BadParts ?a_BadOthers ?l_BadOthers ?r_BadOthers ?sa_BadOthers ?ex_BadOthers ?ty_BadOthers ?k_BadOthers ?i_BadOthers ?v_BadOthers ?ga_BadOthers ?gg_BadOthers ?hd_BadOthers ?cl_BadOthers ?hc_BadOthers ?hn_BadOthers ?ht_BadOthers ?hm_BadOthers ?a_BadCount ?l_BadCount ?r_BadCount ?sa_BadCount ?ex_BadCount ?ty_BadCount ?k_BadCount ?i_BadCount ?v_BadCount ?ga_BadCount ?gg_BadCount ?hd_BadCount ?cl_BadCount ?hc_BadCount ?hn_BadCount ?ht_BadCount ?hm_BadCount ?a_BadBook ?l_BadBook ?r_BadBook ?sa_BadBook ?ex_BadBook ?ty_BadBook ?k_BadBook ?i_BadBook ?v_BadBook ?ga_BadBook ?gg_BadBook ?hd_BadBook ?cl_BadBook ?hc_BadBook ?hn_BadBook ?ht_BadBook ?hm_BadBook ?a_BadFlag ?l_BadFlag ?r_BadFlag ?sa_BadFlag ?ex_BadFlag ?ty_BadFlag ?k_BadFlag ?i_BadFlag ?v_BadFlag ?ga_BadFlag ?gg_BadFlag ?hd_BadFlag ?cl_BadFlag ?hc_BadFlag ?hn_BadFlag ?ht_BadFlag ?hm_BadFlag ?a_BadPlace ?l_BadPlace ?r_BadPlace ?sa_BadPlace ?ex_BadPlace ?ty_BadPlace ?k_BadPlace ?i_BadPlace ?v_BadPlace ?ga_BadPlace ?gg_BadPlace ?hd_BadPlace ?cl_BadPlace ?hc_BadPlace ?hn_BadPlace ?ht_BadPlace ?hm_BadPlace ?a_BadClaim ?l_BadClaim ?r_BadClaim ?sa_BadClaim ?ex_BadClaim ?ty_BadClaim ?k_BadClaim ?i_BadClaim ?v_BadClaim ?ga_BadClaim ?gg_BadClaim ?hd_BadClaim ?cl_BadClaim ?hc_BadClaim ?hn_BadClaim ?ht_BadClaim ?hm_BadClaim ?a_BadWorld ?l_BadWorld ?r_BadWorld ?sa_BadWorld ?ex_BadWorld ?ty_BadWorld ?k_BadWorld ?i_BadWorld ?v_BadWorld ?ga_BadWorld ?gg_BadWorld ?hd_BadWorld ?cl_BadWorld ?hc_BadWorld ?hn_BadWorld ?ht_BadWorld ?hm_BadWorld ?a_BadKept ?l_BadKept ?r_BadKept ?sa_BadKept ?ex_BadKept ?ty_BadKept ?k_BadKept ?i_BadKept ?v_BadKept ?ga_BadKept ?gg_BadKept ?hd_BadKept ?cl_BadKept ?hc_BadKept ?hn_BadKept ?ht_BadKept ?hm_BadKept ?a_BadWord ?l_BadWord ?r_BadWord ?sa_BadWord ?ex_BadWord ?ty_BadWord ?k_BadWord ?i_BadWord ?v_BadWord ?ga_BadWord ?gg_BadWord ?hd_BadWord ?cl_BadWord ?hc_BadWord ?hn_BadWord ?ht_BadWord ?hm_BadWord ?a_NoPaper ?l_NoPaper ?r_NoPaper ?sa_NoPaper ?ex_NoPaper ?ty_NoPaper ?k_NoPaper ?i_NoPaper ?v_NoPaper ?ga_NoPaper ?gg_NoPaper ?hd_NoPaper ?cl_NoPaper ?hc_NoPaper ?hn_NoPaper ?ht_NoPaper ?hm_NoPaper ?a_BadPlanned ?l_BadPlanned ?r_BadPlanned ?sa_BadPlanned ?ex_BadPlanned ?ty_BadPlanned ?k_BadPlanned ?i_BadPlanned ?v_BadPlanned ?ga_BadPlanned ?gg_BadPlanned ?hd_BadPlanned ?cl_BadPlanned ?hc_BadPlanned ?hn_BadPlanned ?ht_BadPlanned ?hm_BadPlanned ?a_BadClaims ?l_BadClaims ?r_BadClaims ?sa_BadClaims ?ex_BadClaims ?ty_BadClaims ?k_BadClaims ?i_BadClaims ?v_BadClaims ?ga_BadClaims ?gg_BadClaims ?hd_BadClaims ?cl_BadClaims ?hc_BadClaims ?hn_BadClaims ?ht_BadClaims ?hm_BadClaims ?a_Clashes ?l_Clashes ?r_Clashes ?sa_Clashes ?ex_Clashes ?ty_Clashes ?k_Clashes ?l_init_Clashes ?c_init_Clashes ?k_init_Clashes ?t_init_Clashes ?i_Clashes ?v_Clashes ?ga_Clashes ?gg_Clashes ?hd_Clashes ?cl_Clashes ?hc_Clashes ?hn_Clashes ?ht_Clashes ?hm_Clashes ?a_TooMany ?l_TooMany ?r_TooMany ?sa_TooMany ?ex_TooMany ?ty_TooMany ?k_TooMany ?l_init_TooMany ?c_init_TooMany ?k_init_TooMany ?t_init_TooMany ?i_TooMany ?v_TooMany ?ga_TooMany ?gg_TooMany ?hd_TooMany ?cl_TooMany ?hc_TooMany ?hn_TooMany ?ht_TooMany ?hm_TooMany ?a_TooLong ?l_TooLong ?r_TooLong ?sa_TooLong ?ex_TooLong ?ty_TooLong ?k_TooLong ?l_init_TooLong ?c_init_TooLong ?k_init_TooLong ?t_init_TooLong ?i_TooLong ?v_TooLong ?ga_TooLong ?gg_TooLong ?hd_TooLong ?cl_TooLong ?hc_TooLong ?hn_TooLong ?ht_TooLong ?hm_TooLong ?a_Finished ?l_Finished ?r_Finished ?sa_Finished ?ex_Finished ?ty_Finished ?k_Finished ?l_init_Finished ?c_init_Finished ?k_init_Finished ?t_init_Finished ?i_Finished ?v_Finished ?ga_Finished ?gg_Finished ?hd_Finished ?cl_Finished ?hc_Finished ?hn_Finished ?ht_Finished ?hm_Finished ?a_NothingDone ?l_NothingDone ?r_NothingDone ?sa_NothingDone ?ex_NothingDone ?ty_NothingDone ?k_NothingDone ?l_init_NothingDone ?c_init_NothingDone ?k_init_NothingDone ?t_init_NothingDone ?i_NothingDone ?v_NothingDone ?ga_NothingDone ?gg_NothingDone ?hd_NothingDone ?cl_NothingDone ?hc_NothingDone ?hn_NothingDone ?ht_NothingDone ?hm_NothingDone ?z_len ?z_int ?z_bool ?z_str ?z_list ?z_tuple ?z_dict ?z_range ?z_enumerate ?z_isinstance ?z_repr ?z_ValueError ?rd ?sg ?fc ?kitT ?a_law_tape ?l_law_tape ?c_law_tape ?k_law_tape ?a_law_pick ?l_law_pick ?c_law_pick ?k_law_pick ?a_law_odd ?l_law_odd ?c_law_odd ?k_law_odd ?a_law_made ?l_law_made ?c_law_made ?k_law_made ?a_law_kinds ?l_law_kinds ?c_law_kinds ?k_law_kinds ?a_law_right ?l_law_right ?c_law_right ?k_law_right ?a_law ?l_law ?c_law ?k_law
    (case a_MadeError => k_is)
    (case i_MadeError => k_is)
    (case l_MadeError => k_is)
    (case r_MadeError => decide +kernel)
    (case sa_MadeError => k_is)
    (case ex_MadeError => k_is)
    (case ty_MadeError => k_is)
    (case k_MadeError => k_is)
    (case l_init => k_is)
    (case c_init => k_is)
    (case k_init => k_is)
    (case t_init => k_is)
    (case v_MadeError => k_is)
    (case ga_MadeError => k_is)
    (case gg_MadeError => k_is)
    (case hd_MadeError => k_is)
    (case cl_MadeError => k_is)
    (case hc_MadeError => k_is)
    (case hn_MadeError => k_is)
    (case ht_MadeError => k_is)
    (case hm_MadeError => k_is)
    (case a_BadName => k_is)
    (case l_BadName => k_is)
    (case r_BadName => decide +kernel)
    (case sa_BadName => k_is)
    (case ex_BadName => k_is)
    (case ty_BadName => k_is)
    (case k_BadName => k_is)
    (case i_BadName => k_is)
    (case v_BadName => k_is)
    (case ga_BadName => k_is)
    (case gg_BadName => k_is)
    (case hd_BadName => k_is)
    (case cl_BadName => k_is)
    (case hc_BadName => k_is)
    (case hn_BadName => k_is)
    (case ht_BadName => k_is)
    (case hm_BadName => k_is)
    (case a_BadRow => k_is)
    (case l_BadRow => k_is)
    (case r_BadRow => decide +kernel)
    (case sa_BadRow => k_is)
    (case ex_BadRow => k_is)
    (case ty_BadRow => k_is)
    (case k_BadRow => k_is)
    (case i_BadRow => k_is)
    (case v_BadRow => k_is)
    (case ga_BadRow => k_is)
    (case gg_BadRow => k_is)
    (case hd_BadRow => k_is)
    (case cl_BadRow => k_is)
    (case hc_BadRow => k_is)
    (case hn_BadRow => k_is)
    (case ht_BadRow => k_is)
    (case hm_BadRow => k_is)
    (case a_BadThing => k_is)
    (case l_BadThing => k_is)
    (case r_BadThing => decide +kernel)
    (case sa_BadThing => k_is)
    (case ex_BadThing => k_is)
    (case ty_BadThing => k_is)
    (case k_BadThing => k_is)
    (case i_BadThing => k_is)
    (case v_BadThing => k_is)
    (case ga_BadThing => k_is)
    (case gg_BadThing => k_is)
    (case hd_BadThing => k_is)
    (case cl_BadThing => k_is)
    (case hc_BadThing => k_is)
    (case hn_BadThing => k_is)
    (case ht_BadThing => k_is)
    (case hm_BadThing => k_is)
    (case a_BadForm => k_is)
    (case l_BadForm => k_is)
    (case r_BadForm => decide +kernel)
    (case sa_BadForm => k_is)
    (case ex_BadForm => k_is)
    (case ty_BadForm => k_is)
    (case k_BadForm => k_is)
    (case i_BadForm => k_is)
    (case v_BadForm => k_is)
    (case ga_BadForm => k_is)
    (case gg_BadForm => k_is)
    (case hd_BadForm => k_is)
    (case cl_BadForm => k_is)
    (case hc_BadForm => k_is)
    (case hn_BadForm => k_is)
    (case ht_BadForm => k_is)
    (case hm_BadForm => k_is)
    (case a_BadSign => k_is)
    (case l_BadSign => k_is)
    (case r_BadSign => decide +kernel)
    (case sa_BadSign => k_is)
    (case ex_BadSign => k_is)
    (case ty_BadSign => k_is)
    (case k_BadSign => k_is)
    (case i_BadSign => k_is)
    (case v_BadSign => k_is)
    (case ga_BadSign => k_is)
    (case gg_BadSign => k_is)
    (case hd_BadSign => k_is)
    (case cl_BadSign => k_is)
    (case hc_BadSign => k_is)
    (case hn_BadSign => k_is)
    (case ht_BadSign => k_is)
    (case hm_BadSign => k_is)
    (case a_BadRule => k_is)
    (case l_BadRule => k_is)
    (case r_BadRule => decide +kernel)
    (case sa_BadRule => k_is)
    (case ex_BadRule => k_is)
    (case ty_BadRule => k_is)
    (case k_BadRule => k_is)
    (case i_BadRule => k_is)
    (case v_BadRule => k_is)
    (case ga_BadRule => k_is)
    (case gg_BadRule => k_is)
    (case hd_BadRule => k_is)
    (case cl_BadRule => k_is)
    (case hc_BadRule => k_is)
    (case hn_BadRule => k_is)
    (case ht_BadRule => k_is)
    (case hm_BadRule => k_is)
    (case a_BadText => k_is)
    (case l_BadText => k_is)
    (case r_BadText => decide +kernel)
    (case sa_BadText => k_is)
    (case ex_BadText => k_is)
    (case ty_BadText => k_is)
    (case k_BadText => k_is)
    (case i_BadText => k_is)
    (case v_BadText => k_is)
    (case ga_BadText => k_is)
    (case gg_BadText => k_is)
    (case hd_BadText => k_is)
    (case cl_BadText => k_is)
    (case hc_BadText => k_is)
    (case hn_BadText => k_is)
    (case ht_BadText => k_is)
    (case hm_BadText => k_is)
    (case a_BadParts => k_is)
    (case l_BadParts => k_is)
    (case r_BadParts => decide +kernel)
    (case sa_BadParts => k_is)
    (case ex_BadParts => k_is)
    (case ty_BadParts => k_is)
    (case k_BadParts => k_is)
    (case i_BadParts => k_is)
    (case v_BadParts => k_is)
    (case ga_BadParts => k_is)
    (case gg_BadParts => k_is)
    (case hd_BadParts => k_is)
    (case cl_BadParts => k_is)
    (case hc_BadParts => k_is)
    (case hn_BadParts => k_is)
    (case ht_BadParts => k_is)
    (case hm_BadParts => k_is)
    (case a_BadOthers => k_is)
    (case l_BadOthers => k_is)
    (case r_BadOthers => decide +kernel)
    (case sa_BadOthers => k_is)
    (case ex_BadOthers => k_is)
    (case ty_BadOthers => k_is)
    (case k_BadOthers => k_is)
    (case i_BadOthers => k_is)
    (case v_BadOthers => k_is)
    (case ga_BadOthers => k_is)
    (case gg_BadOthers => k_is)
    (case hd_BadOthers => k_is)
    (case cl_BadOthers => k_is)
    (case hc_BadOthers => k_is)
    (case hn_BadOthers => k_is)
    (case ht_BadOthers => k_is)
    (case hm_BadOthers => k_is)
    (case a_BadCount => k_is)
    (case l_BadCount => k_is)
    (case r_BadCount => decide +kernel)
    (case sa_BadCount => k_is)
    (case ex_BadCount => k_is)
    (case ty_BadCount => k_is)
    (case k_BadCount => k_is)
    (case i_BadCount => k_is)
    (case v_BadCount => k_is)
    (case ga_BadCount => k_is)
    (case gg_BadCount => k_is)
    (case hd_BadCount => k_is)
    (case cl_BadCount => k_is)
    (case hc_BadCount => k_is)
    (case hn_BadCount => k_is)
    (case ht_BadCount => k_is)
    (case hm_BadCount => k_is)
    (case a_BadBook => k_is)
    (case l_BadBook => k_is)
    (case r_BadBook => decide +kernel)
    (case sa_BadBook => k_is)
    (case ex_BadBook => k_is)
    (case ty_BadBook => k_is)
    (case k_BadBook => k_is)
    (case i_BadBook => k_is)
    (case v_BadBook => k_is)
    (case ga_BadBook => k_is)
    (case gg_BadBook => k_is)
    (case hd_BadBook => k_is)
    (case cl_BadBook => k_is)
    (case hc_BadBook => k_is)
    (case hn_BadBook => k_is)
    (case ht_BadBook => k_is)
    (case hm_BadBook => k_is)
    (case a_BadFlag => k_is)
    (case l_BadFlag => k_is)
    (case r_BadFlag => decide +kernel)
    (case sa_BadFlag => k_is)
    (case ex_BadFlag => k_is)
    (case ty_BadFlag => k_is)
    (case k_BadFlag => k_is)
    (case i_BadFlag => k_is)
    (case v_BadFlag => k_is)
    (case ga_BadFlag => k_is)
    (case gg_BadFlag => k_is)
    (case hd_BadFlag => k_is)
    (case cl_BadFlag => k_is)
    (case hc_BadFlag => k_is)
    (case hn_BadFlag => k_is)
    (case ht_BadFlag => k_is)
    (case hm_BadFlag => k_is)
    (case a_BadPlace => k_is)
    (case l_BadPlace => k_is)
    (case r_BadPlace => decide +kernel)
    (case sa_BadPlace => k_is)
    (case ex_BadPlace => k_is)
    (case ty_BadPlace => k_is)
    (case k_BadPlace => k_is)
    (case i_BadPlace => k_is)
    (case v_BadPlace => k_is)
    (case ga_BadPlace => k_is)
    (case gg_BadPlace => k_is)
    (case hd_BadPlace => k_is)
    (case cl_BadPlace => k_is)
    (case hc_BadPlace => k_is)
    (case hn_BadPlace => k_is)
    (case ht_BadPlace => k_is)
    (case hm_BadPlace => k_is)
    (case a_BadClaim => k_is)
    (case l_BadClaim => k_is)
    (case r_BadClaim => decide +kernel)
    (case sa_BadClaim => k_is)
    (case ex_BadClaim => k_is)
    (case ty_BadClaim => k_is)
    (case k_BadClaim => k_is)
    (case i_BadClaim => k_is)
    (case v_BadClaim => k_is)
    (case ga_BadClaim => k_is)
    (case gg_BadClaim => k_is)
    (case hd_BadClaim => k_is)
    (case cl_BadClaim => k_is)
    (case hc_BadClaim => k_is)
    (case hn_BadClaim => k_is)
    (case ht_BadClaim => k_is)
    (case hm_BadClaim => k_is)
    (case a_BadWorld => k_is)
    (case l_BadWorld => k_is)
    (case r_BadWorld => decide +kernel)
    (case sa_BadWorld => k_is)
    (case ex_BadWorld => k_is)
    (case ty_BadWorld => k_is)
    (case k_BadWorld => k_is)
    (case i_BadWorld => k_is)
    (case v_BadWorld => k_is)
    (case ga_BadWorld => k_is)
    (case gg_BadWorld => k_is)
    (case hd_BadWorld => k_is)
    (case cl_BadWorld => k_is)
    (case hc_BadWorld => k_is)
    (case hn_BadWorld => k_is)
    (case ht_BadWorld => k_is)
    (case hm_BadWorld => k_is)
    (case a_BadKept => k_is)
    (case l_BadKept => k_is)
    (case r_BadKept => decide +kernel)
    (case sa_BadKept => k_is)
    (case ex_BadKept => k_is)
    (case ty_BadKept => k_is)
    (case k_BadKept => k_is)
    (case i_BadKept => k_is)
    (case v_BadKept => k_is)
    (case ga_BadKept => k_is)
    (case gg_BadKept => k_is)
    (case hd_BadKept => k_is)
    (case cl_BadKept => k_is)
    (case hc_BadKept => k_is)
    (case hn_BadKept => k_is)
    (case ht_BadKept => k_is)
    (case hm_BadKept => k_is)
    (case a_BadWord => k_is)
    (case l_BadWord => k_is)
    (case r_BadWord => decide +kernel)
    (case sa_BadWord => k_is)
    (case ex_BadWord => k_is)
    (case ty_BadWord => k_is)
    (case k_BadWord => k_is)
    (case i_BadWord => k_is)
    (case v_BadWord => k_is)
    (case ga_BadWord => k_is)
    (case gg_BadWord => k_is)
    (case hd_BadWord => k_is)
    (case cl_BadWord => k_is)
    (case hc_BadWord => k_is)
    (case hn_BadWord => k_is)
    (case ht_BadWord => k_is)
    (case hm_BadWord => k_is)
    (case a_NoPaper => k_is)
    (case l_NoPaper => k_is)
    (case r_NoPaper => decide +kernel)
    (case sa_NoPaper => k_is)
    (case ex_NoPaper => k_is)
    (case ty_NoPaper => k_is)
    (case k_NoPaper => k_is)
    (case i_NoPaper => k_is)
    (case v_NoPaper => k_is)
    (case ga_NoPaper => k_is)
    (case gg_NoPaper => k_is)
    (case hd_NoPaper => k_is)
    (case cl_NoPaper => k_is)
    (case hc_NoPaper => k_is)
    (case hn_NoPaper => k_is)
    (case ht_NoPaper => k_is)
    (case hm_NoPaper => k_is)
    (case a_BadPlanned => k_is)
    (case l_BadPlanned => k_is)
    (case r_BadPlanned => decide +kernel)
    (case sa_BadPlanned => k_is)
    (case ex_BadPlanned => k_is)
    (case ty_BadPlanned => k_is)
    (case k_BadPlanned => k_is)
    (case i_BadPlanned => k_is)
    (case v_BadPlanned => k_is)
    (case ga_BadPlanned => k_is)
    (case gg_BadPlanned => k_is)
    (case hd_BadPlanned => k_is)
    (case cl_BadPlanned => k_is)
    (case hc_BadPlanned => k_is)
    (case hn_BadPlanned => k_is)
    (case ht_BadPlanned => k_is)
    (case hm_BadPlanned => k_is)
    (case a_BadClaims => k_is)
    (case l_BadClaims => k_is)
    (case r_BadClaims => decide +kernel)
    (case sa_BadClaims => k_is)
    (case ex_BadClaims => k_is)
    (case ty_BadClaims => k_is)
    (case k_BadClaims => k_is)
    (case i_BadClaims => k_is)
    (case v_BadClaims => k_is)
    (case ga_BadClaims => k_is)
    (case gg_BadClaims => k_is)
    (case hd_BadClaims => k_is)
    (case cl_BadClaims => k_is)
    (case hc_BadClaims => k_is)
    (case hn_BadClaims => k_is)
    (case ht_BadClaims => k_is)
    (case hm_BadClaims => k_is)
    (case a_Clashes => k_is)
    (case l_Clashes => k_is)
    (case r_Clashes => decide +kernel)
    (case sa_Clashes => k_is)
    (case ex_Clashes => k_is)
    (case ty_Clashes => k_is)
    (case k_Clashes => k_is)
    (case i_Clashes => k_is)
    (case l_init_Clashes => k_is)
    (case c_init_Clashes => k_is)
    (case k_init_Clashes => k_is)
    (case t_init_Clashes => k_is)
    (case v_Clashes => k_is)
    (case ga_Clashes => k_is)
    (case gg_Clashes => k_is)
    (case hd_Clashes => k_is)
    (case cl_Clashes => k_is)
    (case hc_Clashes => k_is)
    (case hn_Clashes => k_is)
    (case ht_Clashes => k_is)
    (case hm_Clashes => k_is)
    (case a_TooMany => k_is)
    (case l_TooMany => k_is)
    (case r_TooMany => decide +kernel)
    (case sa_TooMany => k_is)
    (case ex_TooMany => k_is)
    (case ty_TooMany => k_is)
    (case k_TooMany => k_is)
    (case i_TooMany => k_is)
    (case l_init_TooMany => k_is)
    (case c_init_TooMany => k_is)
    (case k_init_TooMany => k_is)
    (case t_init_TooMany => k_is)
    (case v_TooMany => k_is)
    (case ga_TooMany => k_is)
    (case gg_TooMany => k_is)
    (case hd_TooMany => k_is)
    (case cl_TooMany => k_is)
    (case hc_TooMany => k_is)
    (case hn_TooMany => k_is)
    (case ht_TooMany => k_is)
    (case hm_TooMany => k_is)
    (case a_TooLong => k_is)
    (case l_TooLong => k_is)
    (case r_TooLong => decide +kernel)
    (case sa_TooLong => k_is)
    (case ex_TooLong => k_is)
    (case ty_TooLong => k_is)
    (case k_TooLong => k_is)
    (case i_TooLong => k_is)
    (case l_init_TooLong => k_is)
    (case c_init_TooLong => k_is)
    (case k_init_TooLong => k_is)
    (case t_init_TooLong => k_is)
    (case v_TooLong => k_is)
    (case ga_TooLong => k_is)
    (case gg_TooLong => k_is)
    (case hd_TooLong => k_is)
    (case cl_TooLong => k_is)
    (case hc_TooLong => k_is)
    (case hn_TooLong => k_is)
    (case ht_TooLong => k_is)
    (case hm_TooLong => k_is)
    (case a_Finished => k_is)
    (case l_Finished => k_is)
    (case r_Finished => decide +kernel)
    (case sa_Finished => k_is)
    (case ex_Finished => k_is)
    (case ty_Finished => k_is)
    (case k_Finished => k_is)
    (case i_Finished => k_is)
    (case l_init_Finished => k_is)
    (case c_init_Finished => k_is)
    (case k_init_Finished => k_is)
    (case t_init_Finished => k_is)
    (case v_Finished => k_is)
    (case ga_Finished => k_is)
    (case gg_Finished => k_is)
    (case hd_Finished => k_is)
    (case cl_Finished => k_is)
    (case hc_Finished => k_is)
    (case hn_Finished => k_is)
    (case ht_Finished => k_is)
    (case hm_Finished => k_is)
    (case a_NothingDone => k_is)
    (case l_NothingDone => k_is)
    (case r_NothingDone => decide +kernel)
    (case sa_NothingDone => k_is)
    (case ex_NothingDone => k_is)
    (case ty_NothingDone => k_is)
    (case k_NothingDone => k_is)
    (case i_NothingDone => k_is)
    (case l_init_NothingDone => k_is)
    (case c_init_NothingDone => k_is)
    (case k_init_NothingDone => k_is)
    (case t_init_NothingDone => k_is)
    (case v_NothingDone => k_is)
    (case ga_NothingDone => k_is)
    (case gg_NothingDone => k_is)
    (case hd_NothingDone => k_is)
    (case cl_NothingDone => k_is)
    (case hc_NothingDone => k_is)
    (case hn_NothingDone => k_is)
    (case ht_NothingDone => k_is)
    (case hm_NothingDone => k_is)
    (case z_len => k_is)
    (case z_int => k_is)
    (case z_bool => k_is)
    (case z_str => k_is)
    (case z_list => k_is)
    (case z_tuple => k_is)
    (case z_dict => k_is)
    (case z_range => k_is)
    (case z_enumerate => k_is)
    (case z_isinstance => k_is)
    (case z_repr => k_is)
    (case z_ValueError => k_is)
    (case rd => k_is)
    (case sg => k_is)
    (case fc => k_is)
    (case kitT => kernel_rfl)
    (case a_law_tape => k_is)
    (case l_law_tape => k_is)
    (case c_law_tape => k_is)
    (case k_law_tape => k_is)
    (case a_law_pick => k_is)
    (case l_law_pick => k_is)
    (case c_law_pick => k_is)
    (case k_law_pick => k_is)
    (case a_law_odd => k_is)
    (case l_law_odd => k_is)
    (case c_law_odd => k_is)
    (case k_law_odd => k_is)
    (case a_law_made => k_is)
    (case l_law_made => k_is)
    (case c_law_made => k_is)
    (case k_law_made => k_is)
    (case a_law_kinds => k_is)
    (case l_law_kinds => k_is)
    (case c_law_kinds => k_is)
    (case k_law_kinds => k_is)
    (case a_law_right => k_is)
    (case l_law_right => k_is)
    (case c_law_right => k_is)
    (case k_law_right => k_is)
    (case a_law => k_is)
    (case l_law => k_is)
    (case c_law => k_is)
    (case k_law => k_is)
