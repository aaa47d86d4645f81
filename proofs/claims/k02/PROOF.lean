import PyProof.Rows.All
import Wide.All
import OpenK.AllK
import Wide.FinOn
import HandS.ForExc
import HandS.Comp
import HandS.Evl
import HandS.Wide
import HandS.IsInst
import HandS.ExcInit
import HandS.ExcField
import HandS.TupAny
import HandS.EndBits
import PyProof.ReprRoads
import PySem.Challenge.RW_trulymade_k02_one_body_in_five_forms
set_option Elab.async false
set_option linter.all false
set_option maxRecDepth 100000
set_option maxHeartbeats 2000000
namespace Fd
open PySem PySem.Spec PyProof.Rows L2

/-! ### heaps -/
theorem same_new {H : Hp} {p : Addr} {o : HO} (n : H p = none) : Same H (upd H p o) := fun b x e => by
  rw [upd_ne (ne_of_none e n)]
  exact e
theorem same_mut {H H' : Hp} {p : Addr} {o : HO} (s : Same H H') (n : H p = none) : Same H (upd H' p o) := fun b x e => by
  rw [upd_ne (ne_of_none e n)]
  exact s b x e
theorem same_t {K : PySem.W.Frag} {H H' : Hp} {a : Addr} {xs : List V} (s : Same H H') (h : SqT K H a xs) : SqT K H' a xs := Evl.ex_t s h
theorem same_l {K : PySem.W.Frag} {H H' : Hp} {a : Addr} {xs : List V} (s : Same H H') (h : SqL K H a xs) : SqL K H' a xs := Evl.ex_l s h

/-! ### a def that stands behind the top, with its promise -/
section
variable (P : Program) (w : World) (K : PySem.W.Frag) (mg : Str → Option Value) (base : Heap)
/-- the def called x keeps the promise sp by at most level k -/
structure Pr (k : Nat) (x : Str) (ps : List Str) (sp : Sp) : Prop where
  ex : ∃ (f : Addr) (fd : FuncData), mg x = some (.ref f) ∧ PySem.W.keepIn K (.ref f) = true ∧ Binds K fd ps [] ∧ FnOk P w K mg base (L2.CX P w) k f fd ps sp
/-- the def called x as the top left it -/
structure Dx (x : Str) (st : Stmt) (ps : List Str) : Prop where
  ex : ∃ (f : Addr) (fd : FuncData), mg x = some (.ref f) ∧ Binds K fd ps [] ∧ Fun K x x st f fd
end
section
variable {P : Program} {w : World} {K : PySem.W.Frag} {mg : Str → Option Value} {base : Heap}
theorem Dx.pr {x : Str} {st : Stmt} {N ps : List Str} {k : Nat} {sp : Sp} (D : Dx K mg x st ps) (S : FnScope N ps (defScope st)) (len : ∀ vs H Q E, sp vs H Q E → vs.length = ps.length)
    (body : ∀ (f : Addr) (cdv : Value) (A : Around) (outer : List Env) (s : Shared) (H : Hp) (vs : List V) (Q : VK) (E : XK), Room k (A.deeper (envOfC x (defScope st) s.heap.objs.size f cdv)) → sp vs H Q E →
      ∃ t, PSs (cxOf (L2.CX P w) P w K mg base N x (defScope st) f cdv A outer s H E) (defBody st) t ∧ t { nx := fun _ H' => Q .non H', rt := Q } (start N vs) H) : Pr P w K mg base (k + 1) x ps sp := by
  obtain ⟨f, fd, g, b, F⟩ := D.ex
  exact ⟨f, fd, g, F.kp, b, F.okX S len fun cdv A outer s H vs Q E hr h => body f cdv A outer s H vs Q E hr h⟩
theorem dx_mk {x : Str} {st : Stmt} {ps : List Str} {f : Addr} {oc : Value} {od an : Option Addr} {osl : Array (Option Value)} {kV doc pm cdv ct : Value} {h : Heap} (X : K.In h) (G : h.Ns mainGlobals mg) (a : PySem.W.nsIn K mainGlobals x = some (some (.ref f)))
    (l : K.lookup f = some ⟨oc, od, .func (PySem.W.fnOf x x (defArgs st) (defBody st) (defScope st) .none kV doc pm an cdv ct), osl⟩) (c : PySem.W.codeIn K cdv x = true) (k : PySem.W.keepIn K (.ref f) = true)
    (hb : ∀ (kV doc pm : Value) (an : Option Addr) (cdv ct : Value) (us : List Value), us.length = ps.length → bindArgs (PySem.W.fnOf x x (defArgs st) (defBody st) (defScope st) .none kV doc pm an cdv ct) ⟨us, []⟩ = pure (ps.zip us)) : Dx K mg x st ps :=
  ⟨f, _, PySem.W.mg_of X G a, (fun_mk (st := st) l c k).binds hb, fun_mk (st := st) l c k⟩
end
section
variable {X : Cx} {k : Nat} {x : Str} {ps : List Str} {sp : Sp} {E : XK} {e : Expr} {es : List Expr} {t : TA} {p pos : Pos}
/-- a call of such a def; what it lets out is wished for as E says -/
theorem pe_callP (C : Pr X.prog X.w X.K X.mg X.base k x ps sp) (hr : Room k X.A) (hg : Gl X x) (hx : Passes (L2.CX X.prog X.w) X E) (ha : PA X (e :: es) t) (hdb : (x == ("__debug__" : Str)) = false := by decide)
    (he : starEach (e :: es) X.env = (false, eval e X.env) :: starEach es X.env := by rfl) (hpl : (backTo pos (starEach es X.env)).any (·.1) = false := by rfl) : PE X (.Call (.Name x p) (e :: es) [] pos) (tCall sp [] E t) := by
  obtain ⟨f, fd, g, kp, b, F⟩ := C.ex
  exact pe_call F hr hg g kp b .nil hx ha hdb he hpl
end

/-! ### what is walked: a list or a tuple -/
/-- a sequence, of which kind is left open -/
def SqS (K : PySem.W.Frag) (H : Hp) (a : Addr) (xs : List V) : Prop := SqL K H a xs ∨ SqT K H a xs
def iSeq (K : PySem.W.Frag) (tl : TE) : TI := fun σ H R => tl σ H fun x H1 => ∃ a, x = .ref a ∧ (((∃ xs, SqL K H1 a xs) ∧ R (Itl K a) H1) ∨ ((∃ xs, SqT K H1 a xs) ∧ R (Itt K a) H1))
theorem pi_seq {X : Cx} {tg l : Expr} {tl : TE} (hl : PE X l tl) : PI X tg l (iSeq X.K tl) := by
  constructor
  intro pins s σ H R I h
  refine thn (hl.run pins s σ H _ I h) ?_
  rintro v s1 ⟨x, H1, I1, r1, a, rfl, q⟩
  cases r1
  have fresh : FpOk X pins H1 s1.heap.objs.size := I1.fpOk (Nat.le_refl _) (I1.hok.fresh (Nat.le_refl _))
  have all : ∀ b ∈ [s1.heap.objs.size], FpOk X pins H1 b := fun b hb => by
    rw [List.mem_singleton.mp hb]
    exact fresh
  rcases q with ⟨⟨xs, hq⟩, q⟩ | ⟨⟨xs, hq⟩, q⟩
  · obtain ⟨its, _, pl, _⟩ := I1.list hq
    exact wpAny_pyIter_list pl.isList ⟨_, [_], _, Itl X.K a, H1, rfl, I1.kept (t' := s1.toks) fun _ _ e => Heap.get?_push_of_some _ e, turn_list a _, ⟨_, Heap.get?_push_size _ rfl, rfl, rfl⟩, all, q⟩
  · obtain ⟨its, _, pt, _⟩ := I1.tuple hq
    exact wpAny_pyIter_tuple (show s1.heap.IsTuple a its.toArray from pt) ⟨_, [_], _, Itt X.K a, H1, rfl, I1.kept (t' := s1.toks) fun _ _ e => Heap.get?_push_of_some _ e, turn_tuple a _, ⟨_, Heap.get?_push_size _ rfl, rfl, rfl⟩, all, q⟩

/-! ### errors that keep a value -/
theorem PMk.imp {X : Cx} {e : Expr} {t u : L2.St → Hp → XK → Prop} (h : PMk X e t) (i : ∀ σ H Q, u σ H Q → t σ H Q) : PMk X e u := fun pins s σ H Q I q => h pins s σ H Q I (i σ H Q q)
/-- what __init__(self, value) of the errors promises -/
def spInit (K : PySem.W.Frag) : Sp := fun vs H Q _ => ∃ (a C : Addr) (v : V), vs = [.ref a, v] ∧ OexC K C ∧ PySem.W.findIn K (.ref C) "value" = some none ∧ H a = some (exo a C none) ∧
  ∀ dx, H dx = none → dx ≠ a → Q .non (upd (upd H dx (exd dx [("value", v)])) a (exo a C (some dx)))
/-- __init__ at fI -/
structure InitOk (P : Program) (w : World) (K : PySem.W.Frag) (mg : Str → Option Value) (base : Heap) (k : Nat) (fI : Addr) : Prop where
  ty : PySem.W.typeIn K (.ref fI) = some (.type "function")
  ok : ∃ fd, Binds K fd ["self", "value"] [] ∧ FnOk P w K mg base (L2.CX P w) k fI fd ["self", "value"] (spInit K)
/-- the class x stands at C and has fI as its __init__ -/
structure Ex (K : PySem.W.Frag) (mg : Str → Option Value) (x : Str) (C fI : Addr) : Prop where
  g : mg x = some (.ref C)
  o : OexC K C
  i : PySem.W.findIn K (.ref C) "__init__" = some (some (.ref fI))
  v : PySem.W.findIn K (.ref C) "value" = some none
/-- x(e) -/
def tMade (C : Addr) (te : TE) : L2.St → Hp → XK → Prop := fun σ H Q => te σ H fun v H1 => ∀ d, H1 d = none → Q (.ref C) (some d) (upd H1 d (.xd [(("value" : Str), v)]))
theorem upd_back {H : Hp} {a d : Addr} {o1 o2 o3 o4 : HO} (na : H a = none) (ne : d ≠ a) : upd (del (upd (upd (upd H a o1) d o2) a o3) a) d o4 = upd H d o4 := by
  funext b
  by_cases hd : b = d
  · rw [hd, upd_same, upd_same]
  · rw [upd_ne hd, upd_ne hd]
    by_cases ha : b = a
    · rw [ha, del_same, na]
    · rw [del_ne ha, upd_ne ha, upd_ne hd, upd_ne ha]
/-- a reading, weakened behind -/
def mon (te : TE) : TE := fun σ H Q => ∃ Q' : VK, te σ H Q' ∧ ∀ v H', Q' v H' → Q v H'
theorem pe_mon {X : Cx} {e : Expr} {te : TE} (h : PE X e te) : PE X e (mon te) := by
  constructor
  rintro pins s σ H Q I ⟨Q', h1, h2⟩
  refine thn (h.run pins s σ H Q' I h1) ?_
  rintro v s1 ⟨x, H1, I1, r1, q1⟩
  exact ⟨x, H1, I1, r1, h2 _ _ q1⟩
theorem pmk_made {X : Cx} {k : Nat} {x : Str} {C fI : Addr} {e : Expr} {te : TE} {p pos : Pos} (T : Ex X.K X.mg x C fI) (F : InitOk X.prog X.w X.K X.mg X.base k fI) (hr : Room (k + 1) X.A) (hx : Passes (L2.CX X.prog X.w) X (fun _ _ _ => False)) (hg : Gl X x) (he : PE X e te)
    (hdb : (x == ("__debug__" : Str)) = false := by decide) (hst : starEach (e :: []) X.env = (false, eval e X.env) :: starEach [] X.env := by rfl) (hpl : (backTo pos (starEach [] X.env)).any (·.1) = false := by rfl) :
    PMk X (.Call (.Name x p) [e] [] pos) (tMade C te) := by
  obtain ⟨fd, b, F1⟩ := F.ok
  refine PMk.imp (pmk_oex (ds := []) (dvs := []) T.o T.i F.ty F1 hr b .nil hx hg T.g (pa_cons (pe_mon he) pa_nil hst) hdb hst hpl) fun σ H Q h => ?_
  refine ⟨_, h, fun v H1 q => ⟨(by show 1 ≤ 1000; decide), fun a na => ⟨a, C, v, rfl, T.o, T.v, upd_same, fun dx nx ne => ?_⟩⟩⟩
  have n1 : H1 dx = none := by
    rw [upd_ne ne] at nx
    exact nx
  refine ⟨rfl, dx, [("value", v)], upd_same, ?_, n1, ?_⟩
  · rw [upd_ne ne, upd_same]
  · rw [upd_back na ne]
    exact q dx n1

/-! ### constants of the module -/
theorem pe_cst {X : Cx} {x : Str} {i : Int} {pos : Pos} (h : ∃ t, X.mg x = some (.int i t)) (hg : Gl X x := by rfl) (hd : (x == ("__debug__" : Str)) = false := by decide) : PE X (.Name x pos) (tC (.int i)) := by
  obtain ⟨t, e⟩ := h
  exact pe_glob hg e ⟨t, rfl⟩ hd
/-- the built-in names are still the built-in things -/
structure Nms (mg : Str → Option Value) : Prop where
  n_len : mg "len" = none
  n_int : mg "int" = none
  n_bool : mg "bool" = none
  n_str : mg "str" = none
  n_list : mg "list" = none
  n_tuple : mg "tuple" = none
  n_dict : mg "dict" = none
  n_range : mg "range" = none
  n_enumerate : mg "enumerate" = none
  n_isinstance : mg "isinstance" = none
  n_repr : mg "repr" = none
  n_ValueError : mg "ValueError" = none

/-- a built-in type as a value -/
theorem pe_ty {X : Cx} {x : Str} {pos : Pos} (n : String) (hm : X.mg x = none) (hg : Gl X x := by rfl) (hv : bootBuiltins x = some (.type n) := by decide +kernel) (hn : x ≠ "__name__" := by decide) (hd : (x == ("__debug__" : Str)) = false := by decide) : PE X (.Name x pos) (tC (.ty n)) :=
  pe_bltn hg hm hv rfl hn hd

/-! ### the tape: at t the five cells, at c the script's own copy -/
def TapeOk (H : Hp) (c : Addr) (T : List V) : Prop := ∃ (xs : List Int) (pos rest mix cnt : Int), T = [.ref c, .int pos, .int rest, .int mix, .int cnt] ∧ H c = some (.lst (xs.map V.int)) ∧ 0 ≤ pos ∧ 0 ≤ mix ∧ mix < 2147483648
def TapeAt (H : Hp) (t c : Addr) : Prop := ∃ T, H t = some (.lst T) ∧ TapeOk H c T
/-- all but t stands, t is a tape still -/
structure Go (t c : Addr) (H H' : Hp) : Prop where
  keep : ∀ b o, b ≠ t → H b = some o → H' b = some o
  tape : TapeAt H' t c
theorem tape_ne {H : Hp} {t c : Addr} {xs : List Int} {r : List V} (ht : H t = some (.lst (.ref c :: r))) (hc : H c = some (.lst (xs.map V.int))) : c ≠ t := fun e => by
  rw [e, ht] at hc
  cases xs with
  | nil => cases hc
  | cons x r => cases hc
theorem Go.trans {t c : Addr} {H H1 H2 : Hp} (a : Go t c H H1) (b : Go t c H1 H2) : Go t c H H2 := ⟨fun x o n e => b.keep x o n (a.keep x o n e), b.tape⟩
theorem Go.refl {t c : Addr} {H : Hp} (h : TapeAt H t c) : Go t c H H := ⟨fun _ _ _ e => e, h⟩
theorem TapeAt.there {H : Hp} {t c : Addr} (h : TapeAt H t c) {p : Addr} (n : H p = none) : p ≠ t ∧ p ≠ c := by
  obtain ⟨T, e1, xs, _, _, _, _, _, e2, _⟩ := h
  exact ⟨fun e => (by rw [e, e1] at n; cases n), fun e => (by rw [e, e2] at n; cases n)⟩
theorem TapeAt.keeps {H H' : Hp} {t c : Addr} (h : TapeAt H t c) (k : Same H H') : TapeAt H' t c := by
  obtain ⟨T, e1, xs, p, r, m, n, rfl, e2, h1, h2, h3⟩ := h
  exact ⟨_, k _ _ e1, xs, p, r, m, n, rfl, k _ _ e2, h1, h2, h3⟩
theorem Go.new {t c p : Addr} {H H' : Hp} {o : HO} (g : Go t c H H') (n : H' p = none) : Go t c H (upd H' p o) :=
  ⟨fun b u nb e => by rw [upd_ne (ne_of_none (g.keep b u nb e) n)]; exact g.keep b u nb e, g.tape.keeps (same_new n)⟩
/-- an object that came behind H is changed -/
theorem Go.mut {t c p : Addr} {H H' : Hp} {o : HO} (g : Go t c H H') (n : H p = none) (np : p ≠ t ∧ p ≠ c) : Go t c H (upd H' p o) := by
  refine ⟨fun b u nb e => ?_, ?_⟩
  · rw [upd_ne (ne_of_none e n)]
    exact g.keep b u nb e
  · obtain ⟨T, e1, ys, q, r, m, k, rfl, e2, h⟩ := g.tape
    exact ⟨_, by rw [upd_ne np.1.symm]; exact e1, ys, q, r, m, k, rfl, by rw [upd_ne np.2.symm]; exact e2, h⟩
theorem same_go {t c : Addr} {H0 H H' : Hp} (s : Same H0 H) (g : Go t c H H') (n : H0 t = none) : Same H0 H' := fun b o e => g.keep b o (fun z => by
  rw [z, n] at e
  cases e) (s b o e)
def spTape (K : PySem.W.Frag) : Sp := fun vs H Q _ => ∃ (a : Addr) (ns : List Int), vs = [.ref a] ∧ SqL K H a (ns.map V.int) ∧ ns.length ≤ 63 ∧ ∀ t c H', H t = none → Same H H' → TapeAt H' t c → Q (.ref t) H'
def spPick : Sp := fun vs H Q _ => ∃ (t c : Addr) (size : Int), vs = [.ref t, .int size] ∧ 0 < size ∧ size < 1073741824 ∧ TapeAt H t c ∧ ∀ d H', 0 ≤ d → d < size → Go t c H H' → Q (.int d) H'
def spSign : Sp := fun vs H Q _ => ∃ t c : Addr, vs = [.ref t] ∧ TapeAt H t c ∧ ∀ d H', 0 ≤ d → d < 100 → Go t c H H' → Q (.int d) H'
def Sgn (ns : List Int) : Prop := ∀ z ∈ ns, 0 ≤ z ∧ z < 100
def spSigns : Sp := fun vs H Q _ => ∃ (t c : Addr) (many : Int), vs = [.ref t, .int many] ∧ 0 ≤ many ∧ many ≤ 10000 ∧ TapeAt H t c ∧ ∀ p ns H', (ns.length : Int) = many → Sgn ns → H p = none → Go t c H H' → H' p = some (.lst (ns.map V.int)) → Q (.ref p) H'

/-! ### data: none, bools, ints, texts, lists, tuples, the empty dict -/
mutual
inductive Da (K : PySem.W.Frag) (H : Hp) : V → PyData → Prop
  | non : Da K H .non .none
  | bl (b : Bool) : Da K H (.bl b) (.bool b)
  | int (i : Int) : Da K H (.int i) (.int i)
  | str (x : Str) : Da K H (.str x) (.str x)
  | lst {a : Addr} {xs : List V} {ds : List PyData} : H a = some (.lst xs) → DaAll K H xs ds → Da K H (.ref a) (.list ds)
  | tup {a : Addr} {xs : List V} {ds : List PyData} : H a = some (.tup xs) → DaAll K H xs ds → Da K H (.ref a) (.tuple ds)
  | dic {a : Addr} : H a = some (.dK []) → Da K H (.ref a) (.dict [])
inductive DaAll (K : PySem.W.Frag) (H : Hp) : List V → List PyData → Prop
  | nil : DaAll K H [] []
  | cons {v : V} {vs : List V} {d : PyData} {ds : List PyData} : Da K H v d → DaAll K H vs ds → DaAll K H (v :: vs) (d :: ds)
end
mutual
theorem Da.keep {K : PySem.W.Frag} {H H' : Hp} (s : Same H H') : ∀ (d : PyData) (v : V), Da K H v d → Da K H' v d
  | .none, _, h => by cases h; exact .non
  | .bool _, _, h => by cases h; exact .bl _
  | .int _, _, h => by cases h; exact .int _
  | .str _, _, h => by cases h; exact .str _
  | .list ds, _, h => by
    cases h with
    | lst e a => exact .lst (s _ _ e) (DaAll.keep s ds _ a)
  | .tuple ds, _, h => by
    cases h with
    | tup e a => exact .tup (s _ _ e) (DaAll.keep s ds _ a)
  | .dict _, _, h => by
    cases h with
    | dic e => exact .dic (s _ _ e)
theorem DaAll.keep {K : PySem.W.Frag} {H H' : Hp} (s : Same H H') : ∀ (ds : List PyData) (vs : List V), DaAll K H vs ds → DaAll K H' vs ds
  | [], _, h => by cases h; exact .nil
  | d :: ds, _, h => by
    cases h with
    | cons a b => exact .cons (Da.keep s d _ a) (DaAll.keep s ds _ b)
end
theorem DaAll.ints {K : PySem.W.Frag} {H : Hp} : ∀ ns : List Int, DaAll K H (ns.map V.int) (ns.map PyData.int)
  | [] => .nil
  | n :: ns => .cons (.int n) (DaAll.ints ns)
theorem DaAll.get {K : PySem.W.Frag} {H : Hp} : ∀ {vs : List V} {ds : List PyData} {i : Nat} {v : V}, DaAll K H vs ds → vs[i]? = some v → ∃ d, ds[i]? = some d ∧ Da K H v d
  | _, _, _, _, .nil, e => by simp at e
  | _, _, 0, _, .cons h _, e => by simp at e; subst e; exact ⟨_, rfl, h⟩
  | _, _, i + 1, v, .cons _ t, e => by
    obtain ⟨d, h1, h2⟩ := DaAll.get (i := i) (v := v) t (by simpa using e)
    exact ⟨d, by simpa using h1, h2⟩
theorem DaAll.len {K : PySem.W.Frag} {H : Hp} : ∀ {vs : List V} {ds : List PyData}, DaAll K H vs ds → vs.length = ds.length
  | _, _, .nil => rfl
  | _, _, .cons _ t => by rw [List.length_cons, List.length_cons, DaAll.len t]
def tyD : PyData → String
  | .none => "NoneType" | .bool _ => "bool" | .int _ => "int" | .str _ => "str" | .list _ => "list" | .tuple _ => "tuple" | .dict _ => "dict"
theorem Da.ty {K : PySem.W.Frag} {H : Hp} {v : V} {d : PyData} (h : Da K H v d) : TyX K H v (.type (tyD d)) := by
  cases h with
  | non => exact .base .non
  | bl b => exact .base (.bl b)
  | int i => exact .base (.int i)
  | str x => exact .base (.str x)
  | lst e a => exact .base (.lst e)
  | tup e a => exact .base (.tup e)
  | dic e => exact .base (.dK e)
def dInt : PyData → Bool | .int _ => true | .bool _ => true | _ => false
def dBool : PyData → Bool | .bool _ => true | _ => false
def dStr : PyData → Bool | .str _ => true | _ => false
def dList : PyData → Bool | .list _ => true | _ => false
def dTuple : PyData → Bool | .tuple _ => true | _ => false
def dSeq : PyData → Bool | .list _ => true | .tuple _ => true | _ => false
theorem is_int {K : PySem.W.Frag} : ∀ d : PyData, PySem.W.kitOne K (.type (tyD d)) (.type "int") = some (dInt d)
  | .none => kit_ty (a := "NoneType") (b := "int") (r := false) (by decide +kernel)
  | .bool _ => kit_ty (a := "bool") (b := "int") (r := true) (by decide +kernel)
  | .int _ => kit_ty (a := "int") (b := "int") (r := true) (by decide +kernel)
  | .str _ => kit_ty (a := "str") (b := "int") (r := false) (by decide +kernel)
  | .list _ => kit_ty (a := "list") (b := "int") (r := false) (by decide +kernel)
  | .tuple _ => kit_ty (a := "tuple") (b := "int") (r := false) (by decide +kernel)
  | .dict _ => kit_ty (a := "dict") (b := "int") (r := false) (by decide +kernel)
theorem is_bool {K : PySem.W.Frag} : ∀ d : PyData, PySem.W.kitOne K (.type (tyD d)) (.type "bool") = some (dBool d)
  | .none => kit_ty (a := "NoneType") (b := "bool") (r := false) (by decide +kernel)
  | .bool _ => kit_ty (a := "bool") (b := "bool") (r := true) (by decide +kernel)
  | .int _ => kit_ty (a := "int") (b := "bool") (r := false) (by decide +kernel)
  | .str _ => kit_ty (a := "str") (b := "bool") (r := false) (by decide +kernel)
  | .list _ => kit_ty (a := "list") (b := "bool") (r := false) (by decide +kernel)
  | .tuple _ => kit_ty (a := "tuple") (b := "bool") (r := false) (by decide +kernel)
  | .dict _ => kit_ty (a := "dict") (b := "bool") (r := false) (by decide +kernel)
theorem is_str {K : PySem.W.Frag} : ∀ d : PyData, PySem.W.kitOne K (.type (tyD d)) (.type "str") = some (dStr d)
  | .none => kit_ty (a := "NoneType") (b := "str") (r := false) (by decide +kernel)
  | .bool _ => kit_ty (a := "bool") (b := "str") (r := false) (by decide +kernel)
  | .int _ => kit_ty (a := "int") (b := "str") (r := false) (by decide +kernel)
  | .str _ => kit_ty (a := "str") (b := "str") (r := true) (by decide +kernel)
  | .list _ => kit_ty (a := "list") (b := "str") (r := false) (by decide +kernel)
  | .tuple _ => kit_ty (a := "tuple") (b := "str") (r := false) (by decide +kernel)
  | .dict _ => kit_ty (a := "dict") (b := "str") (r := false) (by decide +kernel)
theorem is_list {K : PySem.W.Frag} : ∀ d : PyData, PySem.W.kitOne K (.type (tyD d)) (.type "list") = some (dList d)
  | .none => kit_ty (a := "NoneType") (b := "list") (r := false) (by decide +kernel)
  | .bool _ => kit_ty (a := "bool") (b := "list") (r := false) (by decide +kernel)
  | .int _ => kit_ty (a := "int") (b := "list") (r := false) (by decide +kernel)
  | .str _ => kit_ty (a := "str") (b := "list") (r := false) (by decide +kernel)
  | .list _ => kit_ty (a := "list") (b := "list") (r := true) (by decide +kernel)
  | .tuple _ => kit_ty (a := "tuple") (b := "list") (r := false) (by decide +kernel)
  | .dict _ => kit_ty (a := "dict") (b := "list") (r := false) (by decide +kernel)
theorem is_tuple {K : PySem.W.Frag} : ∀ d : PyData, PySem.W.kitOne K (.type (tyD d)) (.type "tuple") = some (dTuple d)
  | .none => kit_ty (a := "NoneType") (b := "tuple") (r := false) (by decide +kernel)
  | .bool _ => kit_ty (a := "bool") (b := "tuple") (r := false) (by decide +kernel)
  | .int _ => kit_ty (a := "int") (b := "tuple") (r := false) (by decide +kernel)
  | .str _ => kit_ty (a := "str") (b := "tuple") (r := false) (by decide +kernel)
  | .list _ => kit_ty (a := "list") (b := "tuple") (r := false) (by decide +kernel)
  | .tuple _ => kit_ty (a := "tuple") (b := "tuple") (r := true) (by decide +kernel)
  | .dict _ => kit_ty (a := "dict") (b := "tuple") (r := false) (by decide +kernel)
theorem is_seq {K : PySem.W.Frag} : ∀ d : PyData, PySem.W.kitAny K (.type (tyD d)) [.type "list", .type "tuple"] = some (dSeq d)
  | .none => kitAny_cons (is_list .none) (fun _ => kitAny_cons (is_tuple .none) (fun _ => kitAny_nil) (fun z => by cases z)) (fun z => by cases z)
  | .bool x => kitAny_cons (is_list (.bool x)) (fun _ => kitAny_cons (is_tuple (.bool x)) (fun _ => kitAny_nil) (fun z => by cases z)) (fun z => by cases z)
  | .int x => kitAny_cons (is_list (.int x)) (fun _ => kitAny_cons (is_tuple (.int x)) (fun _ => kitAny_nil) (fun z => by cases z)) (fun z => by cases z)
  | .str x => kitAny_cons (is_list (.str x)) (fun _ => kitAny_cons (is_tuple (.str x)) (fun _ => kitAny_nil) (fun z => by cases z)) (fun z => by cases z)
  | .list x => kitAny_cons (is_list (.list x)) (fun z => by cases z) (fun _ => rfl)
  | .tuple x => kitAny_cons (is_list (.tuple x)) (fun _ => kitAny_cons (is_tuple (.tuple x)) (fun z => by cases z) (fun _ => rfl)) (fun z => by cases z)
  | .dict x => kitAny_cons (is_list (.dict x)) (fun _ => kitAny_cons (is_tuple (.dict x)) (fun _ => kitAny_nil) (fun z => by cases z)) (fun z => by cases z)
/-- whole numbers, signs, forms, rows, things -/
def dWhole : PyData → Bool | .int _ => true | _ => false
def dSign : PyData → Bool | .int i => decide (0 ≤ i) && decide (i < 100) | _ => false
def dForm : PyData → Bool | .int i => decide (0 ≤ i) && decide (i < 5) | _ => false
def dItems : PyData → List PyData | .list ds => ds | .tuple ds => ds | _ => []
def dRow (d : PyData) : Bool := dSeq d && (dItems d).all dSign
def dThing (d : PyData) : Bool := dRow d && (decide (2 ≤ (dItems d).length) && (match dItems d with | x :: _ => dForm x | [] => false))
def spD (K : PySem.W.Frag) (f : PyData → Bool) : Sp := fun vs H Q _ => ∃ (v : V) (d : PyData), vs = [v] ∧ Da K H v d ∧ ∀ H', Same H H' → Q (.bl (f d)) H'

/-- a sequence of a known kind: a list (true), a tuple (false) -/
def SqB (K : PySem.W.Frag) (H : Hp) (a : Addr) (xs : List V) : Bool → Prop
  | true => SqL K H a xs
  | false => SqT K H a xs
theorem SqB.keep {K : PySem.W.Frag} {H H' : Hp} {a : Addr} {xs : List V} : ∀ {b : Bool}, SqB K H a xs b → Same H H' → SqB K H' a xs b
  | true, h, s => same_l s h
  | false, h, s => same_t s h
theorem Da.seq {K : PySem.W.Frag} {H : Hp} {v : V} {d : PyData} (h : Da K H v d) (e : dSeq d = true) : ∃ (a : Addr) (xs : List V) (b : Bool), v = .ref a ∧ DaAll K H xs (dItems d) ∧ SqB K H a xs b ∧ dList d = b ∧ dTuple d = !b := by
  cases h with
  | lst e1 a1 => exact ⟨_, _, true, rfl, a1, SqL.of e1, rfl, rfl⟩
  | tup e1 a1 => exact ⟨_, _, false, rfl, a1, SqT.of e1, rfl, rfl⟩
  | _ => cases e
theorem for_seq {K : PySem.W.Frag} {a : Addr} {xs : List V} {g : TG} {tb : TS} {D : Ends} {σ : L2.St} {H : Hp} (b : Bool) (Pv : Nat → L2.St → Hp → Prop) (h0 : Pv 0 σ H) (hl : ∀ i σ H, i ≤ xs.length → Pv i σ H → SqB K H a xs b)
    (hs : ∀ i x σ H, xs[i]? = some x → Pv i σ H → g x σ H fun σ2 H2 => tb { D with nx := Pv (i + 1), ct := Pv (i + 1), bk := D.nx } σ2 H2) (hd : ∀ σ H, Pv xs.length σ H → D.nx σ H) : tFor (iSeq K (tC (.ref a))) g tb D σ H := by
  cases b with
  | true => exact ⟨a, rfl, .inl ⟨⟨xs, hl 0 σ H (Nat.zero_le _) h0⟩, for_list Pv h0 hl hs hd⟩⟩
  | false => exact ⟨a, rfl, .inr ⟨⟨xs, hl 0 σ H (Nat.zero_le _) h0⟩, for_tup Pv h0 hl hs hd⟩⟩
theorem all_at {f : PyData → Bool} : ∀ {ds : List PyData}, (∀ (i : Nat) (d : PyData), ds[i]? = some d → f d = true) → ds.all f = true
  | [], _ => rfl
  | d :: ds, h => by
    rw [List.all_cons, h 0 d rfl, Bool.true_and]
    exact all_at fun i x e => h (i + 1) x e
theorem not_all {f : PyData → Bool} {ds : List PyData} {i : Nat} {d : PyData} (e : ds[i]? = some d) (h : f d = false) : ds.all f = false := by
  cases q : ds.all f with
  | false => rfl
  | true =>
    have z := List.all_eq_true.mp q d (List.mem_of_getElem? e)
    rw [h] at z
    cases z

/-! ### rows of signs, things -/
def toI : PyData → Int | .int i => i | _ => 0
def dInts (d : PyData) : List Int := (dItems d).map toI
theorem ints_of : ∀ {K : PySem.W.Frag} {H : Hp} {xs : List V} {ds : List PyData}, DaAll K H xs ds → ds.all dSign = true → xs = (ds.map toI).map V.int ∧ ds = (ds.map toI).map PyData.int ∧ Sgn (ds.map toI)
  | _, _, _, _, .nil, _ => ⟨rfl, rfl, fun _ h => nomatch h⟩
  | K, H, _, _, .cons (v := v) (d := d) (vs := vs) (ds := ds) hd ht, h => by
    rw [List.all_cons, Bool.and_eq_true] at h
    obtain ⟨e1, e2, e3⟩ := ints_of ht h.2
    cases d with
    | int i =>
      cases hd
      have hi : 0 ≤ i ∧ i < 100 := by
        have z : (decide (0 ≤ i) && decide (i < 100)) = true := h.1
        rw [Bool.and_eq_true, decide_eq_true_eq, decide_eq_true_eq] at z
        exact z
      refine ⟨by rw [List.map_cons, List.map_cons, ← e1]; rfl, by rw [List.map_cons, List.map_cons, ← e2]; rfl, fun z hz => ?_⟩
      rw [List.map_cons] at hz
      rcases List.mem_cons.mp hz with q | q
      · rw [q]
        exact hi
      · exact e3 z q
    | _ => cases h.1
theorem Da.row {K : PySem.W.Frag} {H : Hp} {v : V} {d : PyData} (h : Da K H v d) (e : dRow d = true) : ∃ (a : Addr) (b : Bool), v = .ref a ∧ SqB K H a ((dInts d).map V.int) b ∧ Sgn (dInts d) ∧ dItems d = (dInts d).map PyData.int ∧ dList d = b ∧ dTuple d = !b := by
  obtain ⟨e1, e2⟩ := Bool.and_eq_true_iff.mp e
  obtain ⟨a, xs, b, rfl, ha, hb, k1, k2⟩ := h.seq e1
  obtain ⟨z1, z2, z3⟩ := ints_of ha e2
  exact ⟨a, b, rfl, by rw [z1] at hb; exact hb, z3, z2, k1, k2⟩
theorem dInts_len (d : PyData) : (dInts d).length = (dItems d).length := List.length_map ..
/-- form, number, signs behind -/
theorem thing_parts {d : PyData} (e : dThing d = true) : dRow d = true ∧ ∃ (f n : Int) (r : List Int), dInts d = f :: n :: r ∧ 0 ≤ f ∧ f < 5 := by
  obtain ⟨e1, e2⟩ := Bool.and_eq_true_iff.mp e
  obtain ⟨e3, e4⟩ := Bool.and_eq_true_iff.mp e2
  have hl := of_decide_eq_true e3
  refine ⟨e1, ?_⟩
  cases hd : dItems d with
  | nil => rw [hd] at hl; cases hl
  | cons x xr =>
    rw [hd] at hl e4
    cases xr with
    | nil => exact absurd (show 2 ≤ 1 from hl) (by decide)
    | cons y r =>
      cases x with
      | int i =>
        have z : (decide (0 ≤ i) && decide (i < 5)) = true := e4
        rw [Bool.and_eq_true, decide_eq_true_eq, decide_eq_true_eq] at z
        exact ⟨i, toI y, r.map toI, by unfold dInts; rw [hd]; rfl, z.1, z.2⟩
      | _ => cases e4
def dFst (d : PyData) : Int := (dInts d).getD 0 0
def dSnd (d : PyData) : Int := (dInts d).getD 1 0
def shiftI (by_ : Int) (ns : List Int) : List Int := ns.map fun z => (z + by_) % 100
def dBody (d : PyData) : List Int := shiftI (-20 * dFst d) ((dInts d).drop 2)
def spShifted (K : PySem.W.Frag) : Sp := fun vs H Q _ => ∃ (a : Addr) (ns : List Int) (b : Bool) (by_ : Int), vs = [.ref a, .int by_] ∧ SqB K H a (ns.map V.int) b ∧ ns.length ≤ 1000000 ∧ ∀ p H', Same H H' → H' p = some (.tup ((shiftI by_ ns).map V.int)) → Q (.ref p) H'
/-- the error of the class at C with the value v leaves -/
def Out (E : XK) (H : Hp) (C : Addr) (v : V) : Prop := ∀ dd H', Same H H' → H' dd = some (.xd [(("value" : Str), v)]) → E (.ref C) (some dd) H'
theorem Out.new {E : XK} {H H1 : Hp} {C : Addr} {v : V} (o : Out E H C v) (s : Same H H1) {d : Addr} (n : H1 d = none) : E (.ref C) (some d) (upd H1 d (.xd [(("value" : Str), v)])) := o d _ (s.trans (same_new n)) upd_same
@[irreducible] def spThing1 (K : PySem.W.Frag) (C : Addr) (f : PyData → Int) : Sp := fun vs H Q E => ∃ (v : V) (d : PyData), vs = [v] ∧ Da K H v d ∧ (dThing d = true → ∀ H', Same H H' → Q (.int (f d)) H') ∧ (dThing d = false → Out E H C v)
@[irreducible] def spBodyOf (K : PySem.W.Frag) (C : Addr) : Sp := fun vs H Q E => ∃ (v : V) (d : PyData), vs = [v] ∧ Da K H v d ∧ (dItems d).length ≤ 1000000 ∧ (dThing d = true → ∀ p H', Same H H' → H' p = some (.tup ((dBody d).map V.int)) → Q (.ref p) H') ∧ (dThing d = false → Out E H C v)
@[irreducible] def spThingOf (K : PySem.W.Frag) (CF CS CR : Addr) : Sp := fun vs H Q E => ∃ (v1 v2 v3 : V) (d1 d2 d3 : PyData), vs = [v1, v2, v3] ∧ Da K H v1 d1 ∧ Da K H v2 d2 ∧ Da K H v3 d3 ∧ (dItems d3).length ≤ 1000000 ∧
  (dForm d1 = true → dSign d2 = true → dRow d3 = true → ∀ p H', Same H H' → H' p = some (.tup ((toI d1 :: toI d2 :: shiftI (20 * toI d1) (dInts d3)).map V.int)) → Q (.ref p) H') ∧
  (dForm d1 = false → Out E H CF v1) ∧ (dForm d1 = true → dSign d2 = false → Out E H CS v2) ∧ (dForm d1 = true → dSign d2 = true → dRow d3 = false → Out E H CR v3)
theorem spThing1_of {K : PySem.W.Frag} {C : Addr} {f : PyData → Int} {H : Hp} {Q : VK} {E : XK} {v : V} {d : PyData} (h : Da K H v d) (q : dThing d = true → ∀ H', Same H H' → Q (.int (f d)) H') (qe : dThing d = false → Out E H C v) : spThing1 K C f [v] H Q E := by
  unfold spThing1
  exact ⟨v, d, rfl, h, q, qe⟩
theorem spBodyOf_of {K : PySem.W.Frag} {C : Addr} {H : Hp} {Q : VK} {E : XK} {v : V} {d : PyData} (h : Da K H v d) (hl : (dItems d).length ≤ 1000000) (q : dThing d = true → ∀ p H', Same H H' → H' p = some (.tup ((dBody d).map V.int)) → Q (.ref p) H') (qe : dThing d = false → Out E H C v) : spBodyOf K C [v] H Q E := by
  unfold spBodyOf
  exact ⟨v, d, rfl, h, hl, q, qe⟩
theorem spThingOf_of {K : PySem.W.Frag} {CF CS CR : Addr} {H : Hp} {Q : VK} {E : XK} {v1 v2 v3 : V} {d1 d2 d3 : PyData} (h1 : Da K H v1 d1) (h2 : Da K H v2 d2) (h3 : Da K H v3 d3) (hl : (dItems d3).length ≤ 1000000)
    (q : dForm d1 = true → dSign d2 = true → dRow d3 = true → ∀ p H', Same H H' → H' p = some (.tup ((toI d1 :: toI d2 :: shiftI (20 * toI d1) (dInts d3)).map V.int)) → Q (.ref p) H')
    (qf : dForm d1 = false → Out E H CF v1) (qs : dForm d1 = true → dSign d2 = false → Out E H CS v2) (qr : dForm d1 = true → dSign d2 = true → dRow d3 = false → Out E H CR v3) : spThingOf K CF CS CR [v1, v2, v3] H Q E := by
  unfold spThingOf
  exact ⟨v1, v2, v3, d1, d2, d3, rfl, h1, h2, h3, hl, q, qf, qs, qr⟩
theorem lc_seq {K : PySem.W.Frag} {a : Addr} {xs : List V} {tl : TE} {j : Nat} {te : TE} {vs : List Nat} {σ : L2.St} {H1 : Hp} {Q : VK} (htl : ∀ R : VK, R (.ref a) H1 → tl σ H1 R) (b : Bool) (h1 : SqB K H1 a xs b) (hw : ∀ x, wipe ((wipe σ vs).set j (some x)) vs = wipe σ vs)
    (step : ∀ D, H1 D = none → ∃ Pv : Nat → Hp → Prop, Pv 0 (upd H1 D (.lst [])) ∧ (∀ i H, i ≤ xs.length → Pv i H → SqB K H a xs b) ∧
      (∀ i x H, xs[i]? = some x → Pv i H → te ((wipe σ vs).set j (some x)) H fun y H4 => ∃ acc, H4 D = some (.lst acc) ∧ acc.length < sizeLine ∧ Pv (i + 1) (upd H4 D (.lst (acc ++ [y])))) ∧
      ∀ H, Pv xs.length H → Q (.ref D) H) : tLc (iSeq K tl) (gName j) tYes te vs σ H1 Q := by
  refine htl _ ?_
  cases b with
  | true =>
    refine ⟨a, rfl, .inl ⟨⟨xs, h1⟩, fun D hD => ?_⟩⟩
    obtain ⟨Pv, p0, pl, ps, pd⟩ := step D hD
    exact lc_list Pv p0 pl (fun i x H hx hp => ⟨hw x, ps i x H hx hp⟩) pd
  | false =>
    refine ⟨a, rfl, .inr ⟨⟨xs, h1⟩, fun D hD => ?_⟩⟩
    obtain ⟨Pv, p0, pl, ps, pd⟩ := step D hD
    exact lc_tup Pv p0 pl (fun i x H hx hp => ⟨hw x, ps i x H hx hp⟩) pd
theorem st_ret1 {te : TE} {D : Ends} {σ : L2.St} {H : Hp} (h : te σ H D.rt) : tRet te D σ H := h
theorem st_set1 {te : TE} {i : Nat} {D : Ends} {σ : L2.St} {H : Hp} (h : te σ H fun v H1 => D.nx (σ.set i (some v)) H1) : tAsg te (gName i) D σ H := h
theorem st_seq1 {t u : TS} {D : Ends} {σ : L2.St} {H : Hp} (h : t { D with nx := u D } σ H) : tSeq t u D σ H := h
theorem cb1 {r : List V → Hp → VK → Prop} {ta : TE} {σ : L2.St} {H : Hp} {Q : VK} (h : ta σ H fun x H1 => r [x] H1 Q) : tCB r (tCons ta tNil) σ H Q := h
theorem go_var {i : Nat} {v : V} {σ : L2.St} {H : Hp} (e : σ[i]? = some (some v)) (R : VK) (h : R v H) : tVar i σ H R := ⟨v, e, h⟩
/-- a slice of a list or of a tuple -/
theorem sl_any {X : Cx} : SlR X (fun x lo hi H Q => rSlL X.K x lo hi H Q ∨ rSlA X.K x lo hi H Q) := sl_list.or sl_tupA

/-! ### tuples of ints: ==, != -/
theorem dp_ints {K : PySem.W.Frag} {H : Hp} : ∀ ns : List Int, DpAll K H (ns.map V.int) (ns.map PyData.int)
  | [] => .nil
  | n :: ns => .cons (.int n) (dp_ints ns)
theorem lay_ints : ∀ ns : List Int, PyData.canLayAll0 (ns.map PyData.int) = true
  | [] => rfl
  | n :: ns => by
    show (PyData.canLay0 (.int n) && PyData.canLayAll0 (ns.map PyData.int)) = true
    rw [lay_ints ns]
    rfl
theorem depth_ints : ∀ ns : List Int, PyData.depthAll (ns.map PyData.int) = 0
  | [] => rfl
  | n :: ns => by
    show max (PyData.depth (.int n)) (PyData.depthAll (ns.map PyData.int)) = 0
    rw [depth_ints ns]
    rfl
theorem shaped_tup (ns : List Int) : SeqAt.shaped (.tuple (ns.map PyData.int)) = true := by
  show (PyData.canLayAll0 (ns.map PyData.int) && decide (PyData.depthAll (ns.map PyData.int) + 1 ≤ 64)) = true
  rw [lay_ints, depth_ints]
  rfl
theorem eqv_ints : ∀ ms ns : List Int, PyData.eqvAll (ms.map PyData.int) (ns.map PyData.int) = decide (ms = ns)
  | [], [] => rfl
  | [], _ :: _ => rfl
  | _ :: _, [] => rfl
  | m :: ms, n :: ns => by
    show ((m == n) && PyData.eqvAll (ms.map PyData.int) (ns.map PyData.int)) = _
    rw [eqv_ints ms ns, Bool.eq_iff_iff]
    simp
def rEqT (K : PySem.W.Frag) : R2 := fun x y H Q => ∃ (a b : Addr) (ms ns : List Int), x = .ref a ∧ y = .ref b ∧ SqT K H a (ms.map V.int) ∧ SqT K H b (ns.map V.int) ∧ Q (.bl (decide (ms = ns))) H
def rNeT (K : PySem.W.Frag) : R2 := fun x y H Q => ∃ (a b : Addr) (ms ns : List Int), x = .ref a ∧ y = .ref b ∧ SqT K H a (ms.map V.int) ∧ SqT K H b (ns.map V.int) ∧ Q (.bl (!decide (ms = ns))) H
theorem op_eqT {X : Cx} (hu : X.A.units + 64 < cLine) : OpR X (compareOp .Eq) (rEqT X.K) := by
  rintro pins s σ H x y v u Q I rx ry ⟨a, b, ms, ns, rfl, rfl, h1, h2, q⟩
  refine op_eqD hu pins s σ H _ _ v u Q I rx ry ⟨.tuple (ms.map PyData.int), .tuple (ns.map PyData.int), .tup h1 (dp_ints ms), .tup h2 (dp_ints ns), shaped_tup ms, shaped_tup ns, ?_⟩
  have e : PyData.eqv (.tuple (ms.map PyData.int)) (.tuple (ns.map PyData.int)) = decide (ms = ns) := eqv_ints ms ns
  rw [e]
  exact q
theorem op_neT {X : Cx} (hu : X.A.units + 64 < cLine) : OpR X (compareOp .NotEq) (rNeT X.K) := by
  rintro pins s σ H x y v u Q I rx ry ⟨a, b, ms, ns, rfl, rfl, h1, h2, q⟩
  refine op_neD hu pins s σ H _ _ v u Q I rx ry ⟨.tuple (ms.map PyData.int), .tuple (ns.map PyData.int), .tup h1 (dp_ints ms), .tup h2 (dp_ints ns), shaped_tup ms, shaped_tup ns, ?_⟩
  have e : PyData.eqv (.tuple (ms.map PyData.int)) (.tuple (ns.map PyData.int)) = decide (ms = ns) := eqv_ints ms ns
  rw [e]
  exact q

/-! ### things that are known -/
theorem Sgn.cons {z : Int} {ns : List Int} (h0 : 0 ≤ z) (h1 : z < 100) (h : Sgn ns) : Sgn (z :: ns) := fun y hy => by
  rcases List.mem_cons.mp hy with e | e
  · rw [e]
    exact ⟨h0, h1⟩
  · exact h y e
theorem Sgn.shift (b : Int) (ns : List Int) : Sgn (shiftI b ns) := fun z hz => by
  obtain ⟨y, _, rfl⟩ := List.mem_map.mp hz
  omega
theorem shift_back {f : Int} {ns : List Int} (h : Sgn ns) : shiftI (-20 * f) (shiftI (20 * f) ns) = ns := by
  unfold shiftI
  rw [List.map_map]
  have e : ∀ z ∈ ns, ((fun z => (z + -20 * f) % 100) ∘ fun z => (z + 20 * f) % 100) z = id z := fun z hz => by
    have q := h z hz
    show ((z + 20 * f) % 100 + -20 * f) % 100 = z
    omega
  rw [List.map_congr_left e, List.map_id]
theorem shift_len (b : Int) (ns : List Int) : (shiftI b ns).length = ns.length := List.length_map ..
theorem toI_ints (ns : List Int) : (ns.map PyData.int).map toI = ns := by
  rw [List.map_map]
  have e : ∀ z ∈ ns, (toI ∘ PyData.int) z = id z := fun z _ => rfl
  rw [List.map_congr_left e, List.map_id]
theorem dInts_tup (ns : List Int) : dInts (.tuple (ns.map PyData.int)) = ns := toI_ints ns
theorem dInts_lst (ns : List Int) : dInts (.list (ns.map PyData.int)) = ns := toI_ints ns
theorem dSign_of {z : Int} (h0 : 0 ≤ z) (h1 : z < 100) : dSign (.int z) = true := by
  show (decide (0 ≤ z) && decide (z < 100)) = true
  rw [decide_eq_true h0, decide_eq_true h1]
  rfl
theorem dForm_of {z : Int} (h0 : 0 ≤ z) (h1 : z < 5) : dForm (.int z) = true := by
  show (decide (0 ≤ z) && decide (z < 5)) = true
  rw [decide_eq_true h0, decide_eq_true h1]
  rfl
theorem all_sign {ns : List Int} (h : Sgn ns) : (ns.map PyData.int).all dSign = true := by
  rw [List.all_map, List.all_eq_true]
  intro z hz
  exact dSign_of (h z hz).1 (h z hz).2
theorem dRow_tup {ns : List Int} (h : Sgn ns) : dRow (.tuple (ns.map PyData.int)) = true := all_sign h
theorem dRow_lst {ns : List Int} (h : Sgn ns) : dRow (.list (ns.map PyData.int)) = true := all_sign h
/-- a thing's ints -/
def thg (f n : Int) (bs : List Int) : List Int := f :: n :: shiftI (20 * f) bs
theorem thg_sgn {f n : Int} {bs : List Int} (f0 : 0 ≤ f) (f1 : f < 5) (n0 : 0 ≤ n) (n1 : n < 100) : Sgn (thg f n bs) := .cons f0 (by omega) (.cons n0 n1 (.shift _ _))
theorem dThing_thg {f n : Int} {bs : List Int} (f0 : 0 ≤ f) (f1 : f < 5) (n0 : 0 ≤ n) (n1 : n < 100) : dThing (.tuple ((thg f n bs).map PyData.int)) = true := by
  unfold dThing
  rw [dRow_tup (thg_sgn f0 f1 n0 n1), Bool.true_and]
  show (decide (2 ≤ ((shiftI (20 * f) bs).map PyData.int).length + 1 + 1) && dForm (.int f)) = true
  rw [dForm_of f0 f1, decide_eq_true (by omega)]
  rfl
theorem thg_len (f n : Int) (bs : List Int) : (thg f n bs).length = bs.length + 2 := by
  show (shiftI (20 * f) bs).length + 2 = _
  rw [shift_len]
theorem thg_ecut (f n : Int) (bs : List Int) : cutV ((thg f n bs).map V.int) (some 2) none = (shiftI (20 * f) bs).map V.int := by
  unfold cutV
  rw [show HT.sIx ((thg f n bs).map V.int).length 0 (some 2) = min 2 ((thg f n bs).map V.int).length from HT.sIx_nat _ 0 2, HT.sIx_none, List.length_map, thg_len, show min 2 (bs.length + 2) = 2 by omega]
  show List.take _ ((shiftI (20 * f) bs).map V.int) = _
  apply List.take_of_length_le
  rw [List.length_map, shift_len]
  omega
theorem thg_ncut (f n : Int) (bs : List Int) : ¬ (HT.sIx ((thg f n bs).map V.int).length 0 (some 2) = 0 ∧ HT.sIx ((thg f n bs).map V.int).length ((thg f n bs).map V.int).length none = ((thg f n bs).map V.int).length) := fun z => by
  have z1 := z.1
  rw [show HT.sIx ((thg f n bs).map V.int).length 0 (some 2) = min 2 ((thg f n bs).map V.int).length from HT.sIx_nat _ 0 2, List.length_map, thg_len] at z1
  omega
theorem thg_inj {f n g m : Int} {bs cs : List Int} (h : thg f n bs = thg g m cs) : f = g ∧ n = m := by
  injection h with h1 h2
  injection h2 with h3 _
  exact ⟨h1, h3⟩
section
variable {K : PySem.W.Frag} {H : Hp} {Q : VK} {E : XK} {C CF CS CR p : Addr} {f n : Int} {bs : List Int}
theorem da_thg (h : H p = some (.tup ((thg f n bs).map V.int))) : Da K H (.ref p) (.tuple ((thg f n bs).map PyData.int)) := .tup h (.ints _)
theorem is_thing_ok (f0 : 0 ≤ f) (f1 : f < 5) (n0 : 0 ≤ n) (n1 : n < 100) (h : H p = some (.tup ((thg f n bs).map V.int))) (q : ∀ H', Same H H' → Q (.bl true) H') : spD K dThing [.ref p] H Q E :=
  ⟨_, _, rfl, da_thg h, fun H' s => by rw [dThing_thg f0 f1 n0 n1]; exact q H' s⟩
theorem form_ok (f0 : 0 ≤ f) (f1 : f < 5) (n0 : 0 ≤ n) (n1 : n < 100) (h : H p = some (.tup ((thg f n bs).map V.int))) (q : ∀ H', Same H H' → Q (.int f) H') : spThing1 K C dFst [.ref p] H Q E :=
  spThing1_of (da_thg h) (fun _ H' s => by
    have e : dFst (.tuple ((thg f n bs).map PyData.int)) = f := by unfold dFst; rw [dInts_tup]; rfl
    rw [e]
    exact q H' s) fun z => by (rw [dThing_thg f0 f1 n0 n1] at z; cases z)
theorem number_ok (f0 : 0 ≤ f) (f1 : f < 5) (n0 : 0 ≤ n) (n1 : n < 100) (h : H p = some (.tup ((thg f n bs).map V.int))) (q : ∀ H', Same H H' → Q (.int n) H') : spThing1 K C dSnd [.ref p] H Q E :=
  spThing1_of (da_thg h) (fun _ H' s => by
    have e : dSnd (.tuple ((thg f n bs).map PyData.int)) = n := by unfold dSnd; rw [dInts_tup]; rfl
    rw [e]
    exact q H' s) fun z => by (rw [dThing_thg f0 f1 n0 n1] at z; cases z)
theorem body_ok (f0 : 0 ≤ f) (f1 : f < 5) (n0 : 0 ≤ n) (n1 : n < 100) (hs : Sgn bs) (hl : bs.length ≤ 999000) (h : H p = some (.tup ((thg f n bs).map V.int))) (q : ∀ p' H', Same H H' → H' p' = some (.tup (bs.map V.int)) → Q (.ref p') H') : spBodyOf K C [.ref p] H Q E :=
  spBodyOf_of (da_thg h) (by
    show ((thg f n bs).map PyData.int).length ≤ _
    rw [List.length_map, thg_len]
    omega) (fun _ p' H' s e => by
    have eb : dBody (.tuple ((thg f n bs).map PyData.int)) = bs := by
      unfold dBody dFst
      rw [dInts_tup]
      show shiftI (-20 * f) (shiftI (20 * f) bs) = bs
      exact shift_back hs
    rw [eb] at e
    exact q p' H' s e) fun z => by (rw [dThing_thg f0 f1 n0 n1] at z; cases z)
theorem thing_ok (f0 : 0 ≤ f) (f1 : f < 5) (n0 : 0 ≤ n) (n1 : n < 100) (hs : Sgn bs) (hl : bs.length ≤ 1000000) (h : H p = some (.tup (bs.map V.int))) (q : ∀ p' H', Same H H' → H' p' = some (.tup ((thg f n bs).map V.int)) → Q (.ref p') H') :
    spThingOf K CF CS CR [.int f, .int n, .ref p] H Q E :=
  spThingOf_of (d3 := .tuple (bs.map PyData.int)) (.int f) (.int n) (.tup h (.ints bs)) (by
    show (bs.map PyData.int).length ≤ _
    rw [List.length_map]
    exact hl) (fun _ _ _ p' H' s e => by
    rw [dInts_tup] at e
    exact q p' H' s e) (fun z => by (rw [dForm_of f0 f1] at z; cases z)) (fun _ z => by (rw [dSign_of n0 n1] at z; cases z)) fun _ _ z => by (rw [dRow_tup hs] at z; cases z)
end

theorem TapeAt.mut {H : Hp} {t c p : Addr} {o : HO} (h : TapeAt H t c) (n : p ≠ t ∧ p ≠ c) : TapeAt (upd H p o) t c := by
  obtain ⟨T, e1, ys, q, r, m, k, rfl, e2, h⟩ := h
  exact ⟨_, by rw [upd_ne n.1.symm]; exact e1, ys, q, r, m, k, rfl, by rw [upd_ne n.2.symm]; exact e2, h⟩
theorem TapeAt.tup_ne {H : Hp} {t c p : Addr} {xs : List V} (h : TapeAt H t c) (e : H p = some (.tup xs)) : p ≠ t := fun z => by
  obtain ⟨T, e1, _⟩ := h
  rw [z, e1] at e
  cases e
theorem rep_len {α : Type} (xs : List α) : ∀ k : Nat, (List.replicate k xs).flatten.length = k * xs.length
  | 0 => by simp
  | k + 1 => by
    rw [List.replicate_succ, List.flatten_cons, List.length_append, rep_len xs k, Nat.succ_mul, Nat.add_comm]
theorem erase_map {α β : Type} (f : α → β) : ∀ (l : List α) (k : Nat), (l.map f).eraseIdx k = (l.eraseIdx k).map f
  | [], _ => rfl
  | _ :: _, 0 => rfl
  | x :: l, k + 1 => by
    show f x :: (l.map f).eraseIdx k = f x :: (l.eraseIdx k).map f
    rw [erase_map f l k]
theorem erase_perm {α : Type} : ∀ {l : List α} {k : Nat} {x : α}, l[k]? = some x → (x :: l.eraseIdx k).Perm l
  | [], k, x, h => by simp at h
  | a :: l, 0, x, h => by
    have e : a = x := Option.some.inj h
    rw [e]
    exact .refl _
  | a :: l, k + 1, x, h => by
    have ih := erase_perm (l := l) (k := k) (x := x) h
    show (x :: a :: l.eraseIdx k).Perm (a :: l)
    exact (List.Perm.swap a x _).trans (ih.cons a)
end Fd

set_option maxRecDepth 100000
set_option maxHeartbeats 4000000
namespace My
open PySem PySem.Spec PyProof.Rows L2 Fd
def top (i : Nat) : Stmt := PySem.Challenge.pw_trulymade_k02_one_body_in_five_forms.main.body.getD i (.Pass ⟨0, 0, 0, 0⟩)
abbrev s_is_whole : Stmt := top 10
theorem sc_is_whole : FnScope ["value"] ["value"] (defScope s_is_whole) := ⟨rfl, rfl, rfl, by decide +kernel, rfl, by decide +kernel, by decide +kernel⟩
abbrev s_is_sign : Stmt := top 11
theorem sc_is_sign : FnScope ["value"] ["value"] (defScope s_is_sign) := ⟨rfl, rfl, rfl, by decide +kernel, rfl, by decide +kernel, by decide +kernel⟩
abbrev s_is_form : Stmt := top 12
theorem sc_is_form : FnScope ["value"] ["value"] (defScope s_is_form) := ⟨rfl, rfl, rfl, by decide +kernel, rfl, by decide +kernel, by decide +kernel⟩
abbrev s_is_row : Stmt := top 13
theorem sc_is_row : FnScope ["value", "sign"] ["value"] (defScope s_is_row) := ⟨rfl, rfl, rfl, by decide +kernel, rfl, by decide +kernel, by decide +kernel⟩
abbrev s_shifted : Stmt := top 14
theorem sc_shifted : FnScope ["row", "by", "sign"] ["row", "by"] (defScope s_shifted) := ⟨rfl, rfl, rfl, by decide +kernel, rfl, by decide +kernel, by decide +kernel⟩
abbrev s_is_thing : Stmt := top 15
theorem sc_is_thing : FnScope ["row"] ["row"] (defScope s_is_thing) := ⟨rfl, rfl, rfl, by decide +kernel, rfl, by decide +kernel, by decide +kernel⟩
abbrev s_form_of : Stmt := top 16
theorem sc_form_of : FnScope ["thing"] ["thing"] (defScope s_form_of) := ⟨rfl, rfl, rfl, by decide +kernel, rfl, by decide +kernel, by decide +kernel⟩
abbrev s_number_of : Stmt := top 17
theorem sc_number_of : FnScope ["thing"] ["thing"] (defScope s_number_of) := ⟨rfl, rfl, rfl, by decide +kernel, rfl, by decide +kernel, by decide +kernel⟩
abbrev s_body_of : Stmt := top 18
theorem sc_body_of : FnScope ["thing", "form"] ["thing"] (defScope s_body_of) := ⟨rfl, rfl, rfl, by decide +kernel, rfl, by decide +kernel, by decide +kernel⟩
abbrev s_thing_of : Stmt := top 19
theorem sc_thing_of : FnScope ["form", "number", "body"] ["form", "number", "body"] (defScope s_thing_of) := ⟨rfl, rfl, rfl, by decide +kernel, rfl, by decide +kernel, by decide +kernel⟩
abbrev s_law_tape : Stmt := top 21
theorem sc_law_tape : FnScope ["script"] ["script"] (defScope s_law_tape) := ⟨rfl, rfl, rfl, by decide +kernel, rfl, by decide +kernel, by decide +kernel⟩
abbrev s_law_pick : Stmt := top 22
theorem sc_law_pick : FnScope ["tape", "size", "digit", "cell", "mixed"] ["tape", "size"] (defScope s_law_pick) := ⟨rfl, rfl, rfl, by decide +kernel, rfl, by decide +kernel, by decide +kernel⟩
abbrev s_law_sign : Stmt := top 23
theorem sc_law_sign : FnScope ["tape", "kind"] ["tape"] (defScope s_law_sign) := ⟨rfl, rfl, rfl, by decide +kernel, rfl, by decide +kernel, by decide +kernel⟩
abbrev s_law_signs : Stmt := top 24
theorem sc_law_signs : FnScope ["tape", "many", "row", "k"] ["tape", "many"] (defScope s_law_signs) := ⟨rfl, rfl, rfl, by decide +kernel, rfl, by decide +kernel, by decide +kernel⟩
abbrev s_law : Stmt := top 25
theorem sc_law : FnScope ["script", "tape", "form", "number", "other", "body", "left", "order", "k", "thing", "rows", "now", "to", "one", "two"] ["script"] (defScope s_law) := ⟨rfl, rfl, rfl, by decide +kernel, rfl, by decide +kernel, by decide +kernel⟩

structure Tx (K : PySem.W.Frag) (mg : Str → Option Value) (fI c_MadeError c_BadRow c_BadThing c_BadForm c_BadSign : Addr) : Prop where
  n : Nms mg
  c_SIGNS : ∃ t, mg "SIGNS" = some (.int 100 t)
  c_FORMS : ∃ t, mg "FORMS" = some (.int 5 t)
  c_SHIFT : ∃ t, mg "SHIFT" = some (.int 20 t)
  x_MadeError : Ex K mg "MadeError" c_MadeError fI
  x_BadRow : Ex K mg "BadRow" c_BadRow fI
  x_BadThing : Ex K mg "BadThing" c_BadThing fI
  x_BadForm : Ex K mg "BadForm" c_BadForm fI
  x_BadSign : Ex K mg "BadSign" c_BadSign fI
section
variable {P : Program} {w : World} {K : PySem.W.Frag} {mg : Str → Option Value} {base : Heap} {fI c_MadeError c_BadRow c_BadThing c_BadForm c_BadSign : Addr}
theorem ok_is_whole (T : Tx K mg fI c_MadeError c_BadRow c_BadThing c_BadForm c_BadSign) (D : Dx K mg "is_whole" s_is_whole ["value"]) : Pr P w K mg base 1 "is_whole" ["value"] (spD K dWhole) := by
  refine D.pr sc_is_whole (fun vs H Q E h => ?_) (fun f cdv A outer s H vs Q E hr h => ⟨_,
      (pss_one (ps_ret (pe_and (pe_callB call_isi (by rfl) T.n.n_isinstance (by decide +kernel) (pa_cons (pv 0) (pa_cons (pe_ty "int" T.n.n_int) pa_nil))) (pe_one (pe_not (pe_callB call_isi (by rfl) T.n.n_isinstance (by decide +kernel) (pa_cons (pv 0) (pa_cons (pe_ty "bool" T.n.n_bool) pa_nil)))))))), ?_⟩)
  · obtain ⟨v, d, rfl, _⟩ := h
    rfl
  obtain ⟨v, d, rfl, hd, q⟩ := h
  refine ⟨_, rfl, _, _, _, _, _, rfl, .ty "int", hd.ty, is_int d, _, rfl, ?_⟩
  cases e : dInt d with
  | false =>
    have ew : dWhole d = false := by cases d <;> first | rfl | cases e
    exact iteF (by have z := q H (.refl H); rw [ew] at z; exact z)
  | true =>
    refine iteT ⟨_, rfl, _, _, _, _, _, rfl, .ty "bool", hd.ty, is_bool d, _, rfl, ?_⟩
    have ew : dWhole d = !dBool d := by cases d <;> first | rfl | cases e
    have z := q H (.refl H)
    rw [ew] at z
    exact z

theorem ok_is_sign (T : Tx K mg fI c_MadeError c_BadRow c_BadThing c_BadForm c_BadSign) (D : Dx K mg "is_sign" s_is_sign ["value"]) (C_is_whole : Pr P w K mg base 1 "is_whole" ["value"] (spD K dWhole)) : Pr P w K mg base 2 "is_sign" ["value"] (spD K dSign) := by
  refine D.pr sc_is_sign (fun vs H Q E h => ?_) (fun f cdv A outer s H vs Q E hr h => ⟨_,
      (pss_one (ps_ret (pe_and (pe_callP C_is_whole (hr.mono (by decide)) (by rfl) (passes_call (takes_of rfl rfl rfl rfl) fun _ _ _ _ z => z) (pa_cons (pv 0) pa_nil)) (pe_one (pe_chain op_le op_lt pe_int (pv 0) (pe_cst T.c_SIGNS)))))), ?_⟩)
  · obtain ⟨v, d, rfl, _⟩ := h
    rfl
  obtain ⟨v, d, rfl, hd, q⟩ := h
  refine ⟨_, rfl, _, d, rfl, hd, fun H1 s1 => ⟨_, rfl, ?_⟩⟩
  cases d with
  | int i =>
    cases hd
    refine iteT ⟨_, rfl, _, _, rfl, rfl, _, rfl, ?_⟩
    have z := q H1 s1
    by_cases c : (0 : Int) ≤ i
    · rw [decide_eq_true c]
      refine iteT ⟨_, _, rfl, rfl, ?_⟩
      have e : dSign (.int i) = decide (i < 100) := by
        show (decide (0 ≤ i) && decide (i < 100)) = _
        rw [decide_eq_true c, Bool.true_and]
      rw [e] at z
      exact z
    · rw [decide_eq_false c]
      refine iteF ?_
      have e : dSign (.int i) = false := by
        show (decide (0 ≤ i) && decide (i < 100)) = _
        rw [decide_eq_false c, Bool.false_and]
      rw [e] at z
      exact z
  | _ => exact iteF (q H1 s1)

theorem ok_is_form (T : Tx K mg fI c_MadeError c_BadRow c_BadThing c_BadForm c_BadSign) (D : Dx K mg "is_form" s_is_form ["value"]) (C_is_whole : Pr P w K mg base 1 "is_whole" ["value"] (spD K dWhole)) : Pr P w K mg base 2 "is_form" ["value"] (spD K dForm) := by
  refine D.pr sc_is_form (fun vs H Q E h => ?_) (fun f cdv A outer s H vs Q E hr h => ⟨_,
      (pss_one (ps_ret (pe_and (pe_callP C_is_whole (hr.mono (by decide)) (by rfl) (passes_call (takes_of rfl rfl rfl rfl) fun _ _ _ _ z => z) (pa_cons (pv 0) pa_nil)) (pe_one (pe_chain op_le op_lt pe_int (pv 0) (pe_cst T.c_FORMS)))))), ?_⟩)
  · obtain ⟨v, d, rfl, _⟩ := h
    rfl
  obtain ⟨v, d, rfl, hd, q⟩ := h
  refine ⟨_, rfl, _, d, rfl, hd, fun H1 s1 => ⟨_, rfl, ?_⟩⟩
  cases d with
  | int i =>
    cases hd
    refine iteT ⟨_, rfl, _, _, rfl, rfl, _, rfl, ?_⟩
    have z := q H1 s1
    by_cases c : (0 : Int) ≤ i
    · rw [decide_eq_true c]
      refine iteT ⟨_, _, rfl, rfl, ?_⟩
      have e : dForm (.int i) = decide (i < 5) := by
        show (decide (0 ≤ i) && decide (i < 5)) = _
        rw [decide_eq_true c, Bool.true_and]
      rw [e] at z
      exact z
    · rw [decide_eq_false c]
      refine iteF ?_
      have e : dForm (.int i) = false := by
        show (decide (0 ≤ i) && decide (i < 5)) = _
        rw [decide_eq_false c, Bool.false_and]
      rw [e] at z
      exact z
  | _ => exact iteF (q H1 s1)

theorem ok_is_row (T : Tx K mg fI c_MadeError c_BadRow c_BadThing c_BadForm c_BadSign) (D : Dx K mg "is_row" s_is_row ["value"]) : Pr P w K mg base 3 "is_row" ["value"] (spD K dRow) := by
  refine D.pr sc_is_row (fun vs H Q E h => ?_) (fun f cdv A outer s H vs Q E hr h => ⟨_,
      (pss_cons (ps_if (pt_not (pt_val (pe_callB call_isiT (by rfl) T.n.n_isinstance (by decide +kernel) (pa_cons (pv 0) (pa_cons (pe_tup (pa_cons (pe_ty "list" T.n.n_list) (pa_cons (pe_ty "tuple" T.n.n_tuple) pa_nil))) pa_nil)))))
        (pss_one (ps_ret pe_bl))
        pss_nil)
      (pss_cons (ps_for (passes_of rfl) rfl (pi_seq (pv 0)) (pg_name (i := 1) sc_is_row.nd rfl (Or.inl rfl))
        (pss_one (ps_if (PW.pt (pw_or (pt_not (pt_val (pe_callB call_isi (by rfl) T.n.n_isinstance (by decide +kernel) (pa_cons (pv 1) (pa_cons (pe_ty "int" T.n.n_int) pa_nil))))) (pw_or (pt_val (pe_callB call_isi (by rfl) T.n.n_isinstance (by decide +kernel) (pa_cons (pv 1) (pa_cons (pe_ty "bool" T.n.n_bool) pa_nil)))) (pw_or1 (pt_not (pt_chain op_le op_lt pe_int (pv 1) (pe_cst T.c_SIGNS)))))))
          (pss_one (ps_ret pe_bl))
          pss_nil)))
      (pss_one (ps_ret pe_bl)))), ?_⟩)
  · obtain ⟨v, d, rfl, _⟩ := h
    rfl
  obtain ⟨v, d, rfl, hd, q⟩ := h
  refine ⟨_, rfl, by show 2 ≤ sizeLine; decide, fun p np => ?_⟩
  have sp1 : Same H (upd H p (.tup [.ty "list", .ty "tuple"])) := same_new np
  refine ⟨_, p, _, _, _, _, rfl, upd_same, .cons (.ty "list") (.cons (.ty "tuple") .nil), (hd.keep sp1).ty, is_seq d, _, rfl, ?_⟩
  generalize upd H p (.tup [.ty "list", .ty "tuple"]) = H1 at sp1 ⊢
  cases e : dSeq d with
  | false =>
    refine iteT ?_
    have ew : dRow d = false := by unfold dRow; rw [e]; rfl
    have z := q H1 sp1
    rw [ew] at z
    exact z
  | true =>
    refine iteF ?_
    obtain ⟨a, xs, b, rfl, ha, hb, _⟩ := hd.seq e
    refine ⟨_, rfl, for_seq (xs := xs) b (fun i σ H' => ∃ y, σ = [some (.ref a), y] ∧ Same H H' ∧ ∀ j x, j < i → (dItems d)[j]? = some x → dSign x = true) ⟨none, rfl, sp1, fun j x hj => absurd hj (Nat.not_lt_zero _)⟩ (fun i σ H' _ ⟨_, _, s', _⟩ => hb.keep s') ?_ ?_⟩
    · rintro i x σ H' hx ⟨y, rfl, s', hs⟩
      obtain ⟨dx, e1, hdx⟩ := ha.get hx
      have tx := (hdx.keep s').ty
      have yes : dSign dx = true → ∃ y, [some (V.ref a), some x] = [some (V.ref a), y] ∧ Same H H' ∧ ∀ j z, j < i + 1 → (dItems d)[j]? = some z → dSign z = true := fun ed => ⟨_, rfl, s', fun j z hj ez => by
        by_cases c : j = i
        · rw [c, e1] at ez
          cases ez
          exact ed
        · exact hs j z (by omega) ez⟩
      have no : dSign dx = false → Q (.bl false) H' := fun ed => by
        have ew : dRow d = false := by unfold dRow; rw [e, not_all e1 ed]; rfl
        have z := q H' s'
        rw [ew] at z
        exact z
      refine ⟨_, rfl, _, _, _, _, _, rfl, .ty "int", tx, is_int dx, _, rfl, ?_⟩
      cases dx with
      | bool b => exact iteF ⟨_, rfl, _, _, _, _, _, rfl, .ty "bool", tx, is_bool (.bool b), _, rfl, iteT (no rfl)⟩
      | int k =>
        cases hdx
        refine iteF ⟨_, rfl, _, _, _, _, _, rfl, .ty "bool", tx, is_bool (.int k), _, rfl, ?_⟩
        refine iteF ⟨_, rfl, _, _, rfl, rfl, _, rfl, ?_⟩
        by_cases c : (0 : Int) ≤ k
        · rw [decide_eq_true c]
          refine iteT ⟨_, _, rfl, rfl, _, rfl, ?_⟩
          by_cases c2 : k < 100
          · rw [decide_eq_true c2]
            refine iteF (yes ?_)
            show (decide (0 ≤ k) && decide (k < 100)) = true
            rw [decide_eq_true c, decide_eq_true c2]
            rfl
          · rw [decide_eq_false c2]
            refine iteT (no ?_)
            show (decide (0 ≤ k) && decide (k < 100)) = false
            rw [decide_eq_false c2, Bool.and_false]
        · rw [decide_eq_false c]
          refine iteF ⟨_, rfl, iteT (no ?_)⟩
          show (decide (0 ≤ k) && decide (k < 100)) = false
          rw [decide_eq_false c, Bool.false_and]
      | _ => exact iteT (no rfl)
    · rintro σ H' ⟨y, rfl, s', hs⟩
      have ew : dRow d = true := by
        unfold dRow
        rw [e, Bool.true_and]
        exact all_at fun i x ex => hs i x (by rw [ha.len]; exact (List.getElem?_eq_some_iff.mp ex).1) ex
      have z := q H' s'
      rw [ew] at z
      exact z

theorem ok_shifted (T : Tx K mg fI c_MadeError c_BadRow c_BadThing c_BadForm c_BadSign) (D : Dx K mg "shifted" s_shifted ["row", "by"]) : Pr P w K mg base 1 "shifted" ["row", "by"] (spShifted K) := by
  refine D.pr sc_shifted (fun vs H Q E h => ?_) (fun f cdv A outer s H vs Q E hr h => ⟨_,
      (pss_one (ps_ret (pe_callTy call_tuple_of (by rfl) T.n.n_tuple (by decide +kernel) (pa_cons (pe_lc (own := [("sign", 2)]) (g := gName 2) (tt := tYes) rfl sc_shifted.nd (pi_seq (pv 0)) (blkOk_by (N := ["row", "by", "sign"]) (sc := defScope s_shifted) (by decide +kernel)) (fun _ _ _ _ _ => pg_name (i := 2) sc_shifted.nd rfl (Or.inl rfl)) (fun _ _ _ _ _ => pts_nil) (fun _ _ _ _ _ => (pe_op op_mod (pe_op op_add (pv 2) (pv 1)) (pe_cst T.c_SIGNS)))) pa_nil)))), ?_⟩)
  · obtain ⟨a, ns, b, by_, rfl, _⟩ := h
    rfl
  obtain ⟨a, ns, b, by_, rfl, hb, hl, q⟩ := h
  refine st_ret1 (cb1 (lc_seq (a := a) (xs := ns.map V.int) (go_var rfl) b hb (fun _ => rfl) fun D nD => ⟨fun i H' => Same H H' ∧ H' D = some (.lst ((shiftI by_ (ns.take i)).map V.int)), ⟨same_new nD, upd_same⟩, fun i H' _ h => hb.keep h.1, ?_, ?_⟩))
  · rintro i x H' hx ⟨s', hD⟩
    rw [List.getElem?_map] at hx
    cases hn : ns[i]? with
    | none => rw [hn] at hx; cases hx
    | some z =>
      rw [hn] at hx
      cases hx
      refine ⟨_, rfl, _, rfl, _, _, rfl, rfl, _, _, rfl, rfl, (show (0 : Int) < 100 by decide), _, hD, ?_, ?_⟩
      · have hle : ((shiftI by_ (ns.take i)).map V.int).length ≤ 1000000 := by
          unfold shiftI
          rw [List.length_map, List.length_map, List.length_take]
          omega
        exact Nat.lt_of_le_of_lt hle (by decide)
      · refine ⟨same_mut s' nD, ?_⟩
        rw [upd_same, List.take_add_one, hn]
        unfold shiftI
        rw [List.map_append, List.map_append]
        rfl
  · rintro H' ⟨s', hD⟩
    rw [List.length_map, List.take_length] at hD
    exact ⟨D, _, rfl, .inl ⟨SqL.of hD, fun p np => q p _ (s'.trans (same_new np)) upd_same⟩⟩

theorem ok_is_thing (T : Tx K mg fI c_MadeError c_BadRow c_BadThing c_BadForm c_BadSign) (D : Dx K mg "is_thing" s_is_thing ["row"]) (C_is_row : Pr P w K mg base 3 "is_row" ["value"] (spD K dRow)) (C_is_form : Pr P w K mg base 2 "is_form" ["value"] (spD K dForm)) : Pr P w K mg base 4 "is_thing" ["row"] (spD K dThing) := by
  refine D.pr sc_is_thing (fun vs H Q E h => ?_) (fun f cdv A outer s H vs Q E hr h => ⟨_,
      (pss_one (ps_ret (pe_and (pe_callP C_is_row (hr.mono (by decide)) (by rfl) (passes_call (takes_of rfl rfl rfl rfl) fun _ _ _ _ z => z) (pa_cons (pv 0) pa_nil)) (pe_and (pe_cmpR op_ge (pe_callB call_len (by rfl) T.n.n_len (by decide +kernel) (pa_cons (pv 0) pa_nil)) pe_int (nomark _)) (pe_one (pe_callP C_is_form (hr.mono (by decide)) (by rfl) (passes_call (takes_of rfl rfl rfl rfl) fun _ _ _ _ z => z) (pa_cons (pe_ix ix_seq (pv 0) pe_int (fun _ _ => rfl)) pa_nil))))))), ?_⟩)
  · obtain ⟨v, d, rfl, _⟩ := h
    rfl
  obtain ⟨v, d, rfl, hd, q⟩ := h
  refine ⟨_, rfl, _, d, rfl, hd, fun H1 s1 => ⟨_, rfl, ?_⟩⟩
  cases er : dRow d with
  | false =>
    have ew : dThing d = false := by unfold dThing; rw [er]; rfl
    have z := q H1 s1
    rw [ew] at z
    exact iteF z
  | true =>
    have es : dSeq d = true := (Bool.and_eq_true_iff.mp er).1
    obtain ⟨a, xs, b, rfl, ha, hb, _⟩ := hd.seq es
    have hb1 : SqB K H1 a xs b := hb.keep s1
    refine iteT ⟨_, rfl, _, xs.length, rfl, ?_, _, _, rfl, rfl, _, rfl, ?_⟩
    · cases b with
      | true => exact .inl ⟨xs, hb1, rfl⟩
      | false => exact .inr ⟨xs, hb1, rfl⟩
    have hlen := ha.len
    by_cases c : 2 ≤ xs.length
    · rw [decide_eq_true (show (2 : Int) ≤ (xs.length : Int) by omega)]
      obtain ⟨x, xr, rfl⟩ : ∃ x xr, xs = x :: xr := by
        cases xs with
        | nil => cases c
        | cons x xr => exact ⟨x, xr, rfl⟩
      obtain ⟨y, ey, hy⟩ := ha.get (i := 0) (v := x) rfl
      have ix : rIx K (.ref a) (.int 0) H1 (fun v H2 => spD K dForm [v] H2 Q E) := by
        have at0 : atI (x :: xr) (0 : Int) = some x := atI_nat (j := 0) rfl
        have go : spD K dForm [x] H1 Q E := ⟨x, y, rfl, hy.keep s1, fun H2 s2 => by
          have z := q H2 (s1.trans s2)
          have ew : dThing d = dForm y := by
            unfold dThing
            rw [er, Bool.true_and]
            cases ed : dItems d with
            | nil => rw [ed] at ey; cases ey
            | cons d0 dr =>
              rw [ed] at ey hlen
              cases ey
              rw [decide_eq_true (show 2 ≤ (y :: dr).length by rw [← hlen]; exact c), Bool.true_and]
          rw [ew] at z
          exact z⟩
        cases b with
        | true => exact .inl ⟨a, _, _, x, rfl, rfl, hb1, at0, go⟩
        | false => exact .inr (.inl ⟨a, _, _, x, rfl, rfl, hb1, at0, go⟩)
      exact iteT ⟨_, rfl, ix⟩
    · rw [decide_eq_false (show ¬ (2 : Int) ≤ (xs.length : Int) by omega)]
      have ew : dThing d = false := by
        unfold dThing
        rw [← hlen, decide_eq_false c, Bool.false_and, Bool.and_false]
      have z := q H1 s1
      rw [ew] at z
      exact iteF z

theorem ok_form_of (T : Tx K mg fI c_MadeError c_BadRow c_BadThing c_BadForm c_BadSign) (D : Dx K mg "form_of" s_form_of ["thing"]) (C_is_thing : Pr P w K mg base 4 "is_thing" ["row"] (spD K dThing)) (C_init : InitOk P w K mg base 1 fI) : Pr P w K mg base 5 "form_of" ["thing"] (spThing1 K c_BadThing dFst) := by
  refine D.pr sc_form_of (fun vs H Q E h => ?_) (fun f cdv A outer s H vs Q E hr h => ⟨_,
      (pss_cons (ps_if (pt_not (pt_val (pe_callP C_is_thing (hr.mono (by decide)) (by rfl) (passes_call (takes_of rfl rfl rfl rfl) fun _ _ _ _ z => z) (pa_cons (pv 0) pa_nil))))
        (pss_one (ps_raise rfl (takes_of rfl rfl rfl rfl) (pmk_made T.x_BadThing C_init (hr.mono (by decide)) (passes_call (takes_of rfl rfl rfl rfl) fun _ _ _ _ z => z.elim) (by rfl) (pv 0))))
        pss_nil)
      (pss_one (ps_ret (pe_ix ix_seq (pv 0) pe_int (fun _ _ => rfl))))), ?_⟩)
  · unfold spThing1 at h
    obtain ⟨v, d, rfl, _⟩ := h
    rfl
  unfold spThing1 at h
  obtain ⟨v, d, rfl, hd, q, qe⟩ := h
  refine ⟨_, rfl, v, d, rfl, hd, fun H1 s1 => ⟨_, rfl, ?_⟩⟩
  cases e : dThing d with
  | false => exact iteT ⟨_, rfl, fun dd n => (qe e).new s1 n⟩
  | true =>
    refine iteF ?_
    obtain ⟨er, fo, nu, r, en, _⟩ := thing_parts e
    obtain ⟨a, b, rfl, hb, _⟩ := hd.row er
    rw [en] at hb
    have z := q e H1 s1
    have hb1 := hb.keep s1
    have ez : dFst d = fo := by unfold dFst; rw [en]; rfl
    rw [ez] at z
    cases b with
    | true => exact ⟨_, rfl, .inl ⟨a, _, _, _, rfl, rfl, hb1, atI_nat (j := 0) rfl, z⟩⟩
    | false => exact ⟨_, rfl, .inr (.inl ⟨a, _, _, _, rfl, rfl, hb1, atI_nat (j := 0) rfl, z⟩)⟩

theorem ok_number_of (T : Tx K mg fI c_MadeError c_BadRow c_BadThing c_BadForm c_BadSign) (D : Dx K mg "number_of" s_number_of ["thing"]) (C_is_thing : Pr P w K mg base 4 "is_thing" ["row"] (spD K dThing)) (C_init : InitOk P w K mg base 1 fI) : Pr P w K mg base 5 "number_of" ["thing"] (spThing1 K c_BadThing dSnd) := by
  refine D.pr sc_number_of (fun vs H Q E h => ?_) (fun f cdv A outer s H vs Q E hr h => ⟨_,
      (pss_cons (ps_if (pt_not (pt_val (pe_callP C_is_thing (hr.mono (by decide)) (by rfl) (passes_call (takes_of rfl rfl rfl rfl) fun _ _ _ _ z => z) (pa_cons (pv 0) pa_nil))))
        (pss_one (ps_raise rfl (takes_of rfl rfl rfl rfl) (pmk_made T.x_BadThing C_init (hr.mono (by decide)) (passes_call (takes_of rfl rfl rfl rfl) fun _ _ _ _ z => z.elim) (by rfl) (pv 0))))
        pss_nil)
      (pss_one (ps_ret (pe_ix ix_seq (pv 0) pe_int (fun _ _ => rfl))))), ?_⟩)
  · unfold spThing1 at h
    obtain ⟨v, d, rfl, _⟩ := h
    rfl
  unfold spThing1 at h
  obtain ⟨v, d, rfl, hd, q, qe⟩ := h
  refine ⟨_, rfl, v, d, rfl, hd, fun H1 s1 => ⟨_, rfl, ?_⟩⟩
  cases e : dThing d with
  | false => exact iteT ⟨_, rfl, fun dd n => (qe e).new s1 n⟩
  | true =>
    refine iteF ?_
    obtain ⟨er, fo, nu, r, en, _⟩ := thing_parts e
    obtain ⟨a, b, rfl, hb, _⟩ := hd.row er
    rw [en] at hb
    have z := q e H1 s1
    have hb1 := hb.keep s1
    have ez : dSnd d = nu := by unfold dSnd; rw [en]; rfl
    rw [ez] at z
    cases b with
    | true => exact ⟨_, rfl, .inl ⟨a, _, _, _, rfl, rfl, hb1, atI_nat (j := 1) rfl, z⟩⟩
    | false => exact ⟨_, rfl, .inr (.inl ⟨a, _, _, _, rfl, rfl, hb1, atI_nat (j := 1) rfl, z⟩)⟩

theorem ok_body_of (T : Tx K mg fI c_MadeError c_BadRow c_BadThing c_BadForm c_BadSign) (D : Dx K mg "body_of" s_body_of ["thing"]) (C_form_of : Pr P w K mg base 5 "form_of" ["thing"] (spThing1 K c_BadThing dFst)) (C_shifted : Pr P w K mg base 1 "shifted" ["row", "by"] (spShifted K)) : Pr P w K mg base 6 "body_of" ["thing"] (spBodyOf K c_BadThing) := by
  refine D.pr sc_body_of (fun vs H Q E h => ?_) (fun f cdv A outer s H vs Q E hr h => ⟨_,
      (pss_cons (ps_set (i := 1) sc_body_of.nd rfl (Or.inl rfl) (pe_callP C_form_of (hr.mono (by decide)) (by rfl) (passes_call (takes_of rfl rfl rfl rfl) fun _ _ _ _ z => z) (pa_cons (pv 0) pa_nil)))
      (pss_one (ps_ret (pe_callP C_shifted (hr.mono (by decide)) (by rfl) (passes_call (takes_of rfl rfl rfl rfl) fun _ _ _ _ z => z) (pa_cons (pe_slice sl_any (pv 0) (po_some pe_int) po_none) (pa_cons (pe_op op_mul (pe_un un_neg (pe_cst T.c_SHIFT)) (pv 1)) pa_nil)))))), ?_⟩)
  · unfold spBodyOf at h
    obtain ⟨v, d, rfl, _⟩ := h
    rfl
  unfold spBodyOf at h
  obtain ⟨v, d, rfl, hd, hl, q, qe⟩ := h
  refine ⟨_, rfl, spThing1_of hd (fun e H1 s1 => ?_) (fun e => qe e)⟩
  obtain ⟨er, fo, nu, r, en, _⟩ := thing_parts e
  obtain ⟨a, b, rfl, hb, _⟩ := hd.row er
  have hb1 := hb.keep s1
  have hlen : (dInts d).length ≤ 1000000 := by rw [dInts_len]; exact hl
  have ecut : cutV ((dInts d).map V.int) (some 2) none = ((dInts d).drop 2).map V.int := by
    unfold cutV
    rw [show HT.sIx ((dInts d).map V.int).length 0 (some 2) = min 2 ((dInts d).map V.int).length from HT.sIx_nat _ 0 2, HT.sIx_none, List.length_map, en]
    show List.take _ ((r.map V.int)) = r.map V.int
    apply List.take_of_length_le
    simp
  have fin : ∀ (p : Addr) (H2 : Hp), Same H1 H2 → SqB K H2 p (((dInts d).drop 2).map V.int) b → spShifted K [.ref p, .int (-20 * dFst d)] H2 Q E := fun p H2 s2 h2 =>
    ⟨p, (dInts d).drop 2, b, _, rfl, h2, by rw [List.length_drop]; omega, fun p' H3 s3 e3 => q e p' H3 ((s1.trans s2).trans s3) e3⟩
  refine ⟨_, rfl, 2, rfl, ?_⟩
  cases b with
  | true =>
    refine .inl ⟨a, _, rfl, hb1, fun p np => ?_⟩
    refine ⟨_, rfl, _, rfl, _, _, rfl, rfl, .inl (by decide), fin p _ (same_new np) ?_⟩
    exact SqL.of (by rw [upd_same, ecut])
  | false =>
    refine .inr ⟨a, _, rfl, hb1, fun ⟨z, _⟩ => ?_, fun _ p np => ?_⟩
    · rw [show HT.sIx ((dInts d).map V.int).length 0 (some 2) = min 2 ((dInts d).map V.int).length from HT.sIx_nat _ 0 2, List.length_map, en] at z
      simp at z
    · refine ⟨_, rfl, _, rfl, _, _, rfl, rfl, .inl (by decide), fin p _ (same_new np) ?_⟩
      exact SqT.of (by rw [upd_same, ecut])

theorem ok_thing_of (T : Tx K mg fI c_MadeError c_BadRow c_BadThing c_BadForm c_BadSign) (D : Dx K mg "thing_of" s_thing_of ["form", "number", "body"]) (C_is_form : Pr P w K mg base 2 "is_form" ["value"] (spD K dForm)) (C_is_sign : Pr P w K mg base 2 "is_sign" ["value"] (spD K dSign)) (C_is_row : Pr P w K mg base 3 "is_row" ["value"] (spD K dRow)) (C_shifted : Pr P w K mg base 1 "shifted" ["row", "by"] (spShifted K)) (C_init : InitOk P w K mg base 1 fI) : Pr P w K mg base 4 "thing_of" ["form", "number", "body"] (spThingOf K c_BadForm c_BadSign c_BadRow) := by
  refine D.pr sc_thing_of (fun vs H Q E h => ?_) (fun f cdv A outer s H vs Q E hr h => ⟨_,
      (pss_cons (ps_if (pt_not (pt_val (pe_callP C_is_form (hr.mono (by decide)) (by rfl) (passes_call (takes_of rfl rfl rfl rfl) fun _ _ _ _ z => z) (pa_cons (pv 0) pa_nil))))
        (pss_one (ps_raise rfl (takes_of rfl rfl rfl rfl) (pmk_made T.x_BadForm C_init (hr.mono (by decide)) (passes_call (takes_of rfl rfl rfl rfl) fun _ _ _ _ z => z.elim) (by rfl) (pv 0))))
        pss_nil)
      (pss_cons (ps_if (pt_not (pt_val (pe_callP C_is_sign (hr.mono (by decide)) (by rfl) (passes_call (takes_of rfl rfl rfl rfl) fun _ _ _ _ z => z) (pa_cons (pv 1) pa_nil))))
        (pss_one (ps_raise rfl (takes_of rfl rfl rfl rfl) (pmk_made T.x_BadSign C_init (hr.mono (by decide)) (passes_call (takes_of rfl rfl rfl rfl) fun _ _ _ _ z => z.elim) (by rfl) (pv 1))))
        pss_nil)
      (pss_cons (ps_if (pt_not (pt_val (pe_callP C_is_row (hr.mono (by decide)) (by rfl) (passes_call (takes_of rfl rfl rfl rfl) fun _ _ _ _ z => z) (pa_cons (pv 2) pa_nil))))
        (pss_one (ps_raise rfl (takes_of rfl rfl rfl rfl) (pmk_made T.x_BadRow C_init (hr.mono (by decide)) (passes_call (takes_of rfl rfl rfl rfl) fun _ _ _ _ z => z.elim) (by rfl) (pv 2))))
        pss_nil)
      (pss_one (ps_ret (pe_op op_catA (pe_tup (pa_cons (pv 0) (pa_cons (pv 1) pa_nil))) (pe_callP C_shifted (hr.mono (by decide)) (by rfl) (passes_call (takes_of rfl rfl rfl rfl) fun _ _ _ _ z => z) (pa_cons (pv 2) (pa_cons (pe_op op_mul (pe_cst T.c_SHIFT) (pv 0)) pa_nil))))))))), ?_⟩)
  · unfold spThingOf at h
    obtain ⟨v1, v2, v3, d1, d2, d3, rfl, _⟩ := h
    rfl
  unfold spThingOf at h
  obtain ⟨v1, v2, v3, d1, d2, d3, rfl, h1, h2, h3, hl, q, qf, qs, qr⟩ := h
  refine ⟨_, rfl, v1, d1, rfl, h1, fun H1 s1 => ⟨_, rfl, ?_⟩⟩
  cases e1 : dForm d1 with
  | false => exact iteT ⟨_, rfl, fun dd n => (qf e1).new s1 n⟩
  | true =>
  refine iteF ⟨_, rfl, v2, d2, rfl, h2.keep s1, fun H2 s2 => ⟨_, rfl, ?_⟩⟩
  have s02 := s1.trans s2
  cases e2 : dSign d2 with
  | false => exact iteT ⟨_, rfl, fun dd n => (qs e1 e2).new s02 n⟩
  | true =>
  refine iteF ⟨_, rfl, v3, d3, rfl, h3.keep s02, fun H3 s3 => ⟨_, rfl, ?_⟩⟩
  have s03 := s02.trans s3
  cases e3 : dRow d3 with
  | false => exact iteT ⟨_, rfl, fun dd n => (qr e1 e2 e3).new s03 n⟩
  | true =>
  refine iteF ?_
  have z := q e1 e2 e3
  cases d1 with
  | int f =>
    cases d2 with
    | int n =>
      cases h1
      cases h2
      obtain ⟨a, b, rfl, hb, _⟩ := h3.row e3
      refine ⟨_, rfl, _, rfl, by show 2 ≤ sizeLine; decide, fun p np => ?_⟩
      have s4 := s03.trans (same_new (o := .tup [.int f, .int n]) np)
      have ep : upd H3 p (.tup [V.int f, V.int n]) p = some (.tup [V.int f, V.int n]) := upd_same
      refine ⟨_, rfl, _, rfl, _, _, rfl, rfl, .inl (by decide), a, dInts d3, b, _, rfl, hb.keep s4, by rw [dInts_len]; exact hl, fun p2 H5 s5 e5 => ?_⟩
      have ep5 := s5 _ _ ep
      refine ⟨p, p2, _, _, rfl, rfl, SqT.of ep5, SqT.of e5, ?_, fun h => (by cases h), fun _ hn => ?_, fun _ hn p3 np3 => z p3 _ ((s4.trans s5).trans (same_new np3)) upd_same⟩
      · have hle : ([V.int f, V.int n] : List V).length + ((shiftI (20 * f) (dInts d3)).map V.int).length ≤ 1000002 := by
          unfold shiftI
          rw [List.length_map, List.length_map, dInts_len]
          show 2 + _ ≤ _
          omega
        exact Nat.le_trans hle (by decide)
      · refine z p _ (s4.trans s5) ?_
        have e0 : shiftI (20 * f) (dInts d3) = [] := List.map_eq_nil_iff.mp hn
        show H5 p = some (.tup (V.int f :: V.int n :: (shiftI (20 * f) (dInts d3)).map V.int))
        rw [e0]
        exact ep5
    | _ => cases e2
  | _ => cases e1

theorem ok_law_tape (T : Tx K mg fI c_MadeError c_BadRow c_BadThing c_BadForm c_BadSign) (D : Dx K mg "_law_tape" s_law_tape ["script"]) : Pr P w K mg base 1 "_law_tape" ["script"] (spTape K) := by
  refine D.pr sc_law_tape (fun vs H Q E h => ?_) (fun f cdv A outer s H vs Q E hr h => ⟨_,
      (pss_one (ps_ret (pe_lst (pa_cons (pe_callTy call_list_of (by rfl) T.n.n_list (by decide +kernel) (pa_cons (pv 0) pa_nil)) (pa_cons pe_int (pa_cons pe_int (pa_cons pe_int (pa_cons pe_int pa_nil)))))))), ?_⟩)
  · obtain ⟨a, ns, rfl, _⟩ := h
    rfl
  obtain ⟨a, ns, rfl, hS, hl, q⟩ := h
  refine ⟨_, rfl, a, _, rfl, .inl hS, fun l nl => ⟨by show 5 ≤ sizeLine; decide, fun p np => ?_⟩⟩
  have nlp : l ≠ p := fun e => by
    rw [← e, upd_same] at np
    cases np
  have np' : H p = none := (same_new nl).free np
  refine q p l _ np' ((same_new nl).trans (same_new np)) ⟨_, upd_same, ns, 0, 0, 1, 0, rfl, ?_, by omega, by omega, by omega⟩
  rw [upd_ne nlp, upd_same]

theorem ok_law_pick (T : Tx K mg fI c_MadeError c_BadRow c_BadThing c_BadForm c_BadSign) (D : Dx K mg "_law_pick" s_law_pick ["tape", "size"]) : Pr P w K mg base 1 "_law_pick" ["tape", "size"] spPick := by
  refine D.pr sc_law_pick (fun vs H Q E h => ?_) (fun f cdv A outer s H vs Q E hr h => ⟨_,
      (pss_cons (ps_if (pt_cmpR op_gt (pe_ix ix_list (pv 0) pe_int (fun _ _ => rfl)) pe_int (nomark _))
        (pss_cons (ps_set (i := 2) sc_law_pick.nd rfl (Or.inl rfl) (pe_op op_mod (pe_callTy call_int1 (by rfl) T.n.n_int (by decide +kernel) (pa_cons (pe_ix ix_list (pv 0) pe_int (fun _ _ => rfl)) pa_nil)) (pv 1)))
        (pss_cons (ps_asg (pe_op op_fdivW (pe_ix ix_list (pv 0) pe_int (fun _ _ => rfl)) (pv 1)) (pg_sub (pv 0) pe_int set_list))
        (pss_one (ps_ret (pv 2)))))
        pss_nil)
      (pss_cons (ps_asg (pe_op op_add (pe_ix ix_list (pv 0) pe_int (fun _ _ => rfl)) pe_int) (pg_sub (pv 0) pe_int set_list))
      (pss_cons (ps_set (i := 3) sc_law_pick.nd rfl (Or.inl rfl) pe_int)
      (Evl.pss_cut (ps_if (pt_cmpR op_lt (pe_ix ix_list (pv 0) pe_int (fun _ _ => rfl)) (pe_callB call_len (by rfl) T.n.n_len (by decide +kernel) (pa_cons (pe_ix ix_list (pv 0) pe_int (fun _ _ => rfl)) pa_nil)) (nomark _))
        (pss_cons (ps_set (i := 3) sc_law_pick.nd rfl (Or.inl rfl) (pe_ix ix_list (pe_ix ix_list (pv 0) pe_int (fun _ _ => rfl)) (pe_ix ix_list (pv 0) pe_int (fun _ _ => rfl)) (fun _ _ => rfl)))
        (pss_one (ps_asg (pe_op op_add (pe_ix ix_list (pv 0) pe_int (fun _ _ => rfl)) pe_int) (pg_sub (pv 0) pe_int set_list))))
        pss_nil)
      (pss_cons (ps_if (pt_cmpR op_ge (pv 3) (pe_op op_pow pe_int pe_int) (nomark _))
        (pss_cons (ps_asg (pe_op op_fdivW (pv 3) (pv 1)) (pg_sub (pv 0) pe_int set_list))
        (pss_one (ps_ret (pe_op op_mod (pe_callTy call_int1 (by rfl) T.n.n_int (by decide +kernel) (pa_cons (pv 3) pa_nil)) (pv 1)))))
        pss_nil)
      (pss_cons (ps_set (i := 4) sc_law_pick.nd rfl (Or.inl rfl) (pe_op op_mod (pe_callTy call_int1 (by rfl) T.n.n_int (by decide +kernel) (pa_cons (pe_op op_add (pe_op op_add (pe_op op_mul (pe_ix ix_list (pv 0) pe_int (fun _ _ => rfl)) pe_int) (pe_op op_mod (pe_callTy call_int1 (by rfl) T.n.n_int (by decide +kernel) (pa_cons (pv 3) pa_nil)) pe_int)) (pe_op op_mul (pe_ix ix_list (pv 0) pe_int (fun _ _ => rfl)) pe_int)) pa_nil)) pe_int))
      (pss_cons (ps_set (i := 4) sc_law_pick.nd rfl (Or.inl rfl) (pe_op op_mod (pe_callTy call_int1 (by rfl) T.n.n_int (by decide +kernel) (pa_cons (pe_op op_mul (pv 4) (pe_op op_add (pe_op op_fdivW (pv 4) pe_int) pe_int)) pa_nil)) pe_int))
      (pss_cons (ps_asg (pv 4) (pg_sub (pv 0) pe_int set_list))
      (pss_one (ps_ret (pe_op op_mod (pe_callTy call_int1 (by rfl) T.n.n_int (by decide +kernel) (pa_cons (pe_op op_fdivW (pv 4) pe_int) pa_nil)) (pv 1)))))))))))), ?_⟩)
  · obtain ⟨t, c, size, rfl, _⟩ := h
    rfl
  obtain ⟨t, c, size, rfl, s0, s1, ⟨T0, hT, xs, pos, rest, mix, cnt, rfl, hc, hp, hm0, hm1⟩, q⟩ := h
  have ne : c ≠ t := tape_ne hT hc
  have dw : CDivW rest size := wide_div s0 (show size.natAbs < 2 ^ 30 by omega) (by decide) (by decide)
  have goU : ∀ {H' : Hp} {T' : List V}, (∀ b o, b ≠ t → H b = some o → H' b = some o) → H' t = some (.lst T') → (∃ (pos rest mix cnt : Int), T' = [.ref c, .int pos, .int rest, .int mix, .int cnt] ∧ 0 ≤ pos ∧ 0 ≤ mix ∧ mix < 2147483648) → Go t c H H' := by
    rintro H' T' k e ⟨p1, r1, m1, c1, rfl, h1, h2, h3⟩
    exact ⟨k, _, e, xs, p1, r1, m1, c1, rfl, k c _ ne hc, h1, h2, h3⟩
  dsimp only [cxOf]
  -- tape[2] > 1
  refine ⟨_, rfl, t, _, _, _, rfl, rfl, SqL.of hT, rfl, _, _, rfl, rfl, _, rfl, ?_⟩
  refine ite2 (fun _ => ?_) (fun _ => ?_)
  · refine ⟨_, rfl, t, _, _, _, rfl, rfl, SqL.of hT, rfl, .inl ⟨_, rfl, _, rfl, _, _, rfl, rfl, s0, ?_⟩⟩
    refine ⟨_, rfl, t, _, _, _, rfl, rfl, SqL.of hT, rfl, _, rfl, _, _, rfl, rfl, dw, ?_⟩
    refine ⟨_, rfl, t, _, _, 2, rfl, rfl, hT, rfl, ?_⟩
    refine ⟨_, rfl, q _ _ (Int.emod_nonneg _ (by omega)) (Int.emod_lt_of_pos _ s0) (goU (fun b o nb e => by rw [upd_ne nb]; exact e) upd_same ⟨_, _, _, _, rfl, hp, hm0, hm1⟩)⟩
  -- tape[4] = tape[4] + 1
  refine ⟨_, rfl, t, _, _, _, rfl, rfl, SqL.of hT, rfl, _, _, rfl, rfl, ?_⟩
  refine ⟨_, rfl, t, _, _, 4, rfl, rfl, hT, rfl, ?_⟩
  -- cell
  refine ⟨fun σ' H' => ∃ (cell pos' : Int) (y2 y4 : Option V), σ' = [some (.ref t), some (.int size), y2, some (.int cell), y4] ∧ 0 ≤ pos' ∧ (∀ b o, b ≠ t → H b = some o → H' b = some o) ∧ H' t = some (.lst [.ref c, .int pos', .int rest, .int mix, .int (cnt + 1)]), ?_, ?_⟩
  · have hT1 : (upd H t (HO.lst (List.set [V.ref c, V.int pos, V.int rest, V.int mix, V.int cnt] 4 (V.int (cnt + 1))))) t = some (.lst [.ref c, .int pos, .int rest, .int mix, .int (cnt + 1)]) := upd_same
    have hc1 : (upd H t (HO.lst (List.set [V.ref c, V.int pos, V.int rest, V.int mix, V.int cnt] 4 (V.int (cnt + 1))))) c = some (.lst (xs.map V.int)) := by rw [upd_ne ne]; exact hc
    have k1 : ∀ b o, b ≠ t → H b = some o → (upd H t (HO.lst (List.set [V.ref c, V.int pos, V.int rest, V.int mix, V.int cnt] 4 (V.int (cnt + 1))))) b = some o := fun b o nb e => by rw [upd_ne nb]; exact e
    generalize upd H t (HO.lst (List.set [V.ref c, V.int pos, V.int rest, V.int mix, V.int cnt] 4 (V.int (cnt + 1)))) = H1 at hT1 hc1 k1 ⊢
    refine ⟨_, rfl, t, _, _, _, rfl, rfl, SqL.of hT1, rfl, _, rfl, t, _, _, _, rfl, rfl, SqL.of hT1, rfl, _, _, rfl, .inl ⟨_, SqL.of hc1, rfl⟩, _, _, rfl, rfl, _, rfl, ?_⟩
    refine ite2 (fun hlt => ?_) (fun _ => ?_)
    · obtain ⟨j, rfl⟩ := Int.eq_ofNat_of_zero_le hp
      have hj : j < (xs.map V.int).length := by simpa using hlt
      have hj' : j < xs.length := by simpa using hj
      have at1 : atI (xs.map V.int) (j : Int) = some (V.int xs[j]) := atI_nat (by rw [List.getElem?_map, List.getElem?_eq_getElem hj']; rfl)
      refine ⟨_, rfl, t, _, _, _, rfl, rfl, SqL.of hT1, rfl, _, rfl, t, _, _, _, rfl, rfl, SqL.of hT1, rfl, c, _, _, _, rfl, rfl, SqL.of hc1, at1, ?_⟩
      refine ⟨_, rfl, t, _, _, _, rfl, rfl, SqL.of hT1, rfl, _, _, rfl, rfl, _, rfl, t, _, _, 1, rfl, rfl, hT1, rfl, ?_⟩
      exact ⟨_, _, _, _, rfl, by omega, fun b o nb e => by rw [upd_ne nb]; exact k1 b o nb e, upd_same⟩
    · exact ⟨_, _, _, _, rfl, hp, k1, hT1⟩
  · rintro σ' H' ⟨cell, pos', y2, y4, rfl, hp', k1, hT1⟩
    have dw2 : CDivW cell size := wide_div s0 (show size.natAbs < 2 ^ 30 by omega) (by decide) (by decide)
    refine ⟨_, rfl, _, _, rfl, rfl, ⟨by decide, by decide, by decide⟩, _, _, rfl, rfl, _, rfl, ?_⟩
    refine ite2 (fun _ => ?_) (fun _ => ?_)
    · refine ⟨_, rfl, _, rfl, _, _, rfl, rfl, dw2, _, rfl, t, _, _, 2, rfl, rfl, hT1, rfl, ?_⟩
      refine ⟨_, rfl, .inl ⟨_, rfl, _, rfl, _, _, rfl, rfl, s0, ?_⟩⟩
      exact q _ _ (Int.emod_nonneg _ (by omega)) (Int.emod_lt_of_pos _ s0) (goU (fun b o nb e => by rw [upd_ne nb]; exact k1 b o nb e) upd_same ⟨_, _, _, _, rfl, hp', hm0, hm1⟩)
    · refine ⟨_, rfl, t, _, _, _, rfl, rfl, SqL.of hT1, rfl, _, _, rfl, rfl, .inr (by decide), _, rfl, .inl ⟨_, rfl, _, _, rfl, rfl, (show (0 : Int) < 2147483629 by decide), ?_⟩⟩
      refine ⟨_, _, rfl, rfl, _, rfl, t, _, _, _, rfl, rfl, SqL.of hT1, rfl, _, _, rfl, rfl, .inr (by decide), _, _, rfl, rfl, .inl ⟨_, rfl, _, _, rfl, rfl, (show (0 : Int) < 2147483647 by decide), ?_⟩⟩
      have b1 : ∀ z : Int, 0 ≤ z % 2147483647 ∧ z % 2147483647 < 2147483647 := fun z => by omega
      have b2 : ∀ z : Int, 0 ≤ z % 2147483399 ∧ z % 2147483399 < 2147483399 := fun z => by omega
      refine ⟨_, rfl, _, rfl, _, _, rfl, rfl, ⟨by decide, by decide⟩, _, _, rfl, rfl, _, _, rfl, rfl, .inl ⟨Int.lt_of_lt_of_le (by decide) (b1 _).1, Int.lt_trans (b1 _).2 (by decide)⟩, .inl ⟨_, rfl, _, _, rfl, rfl, (show (0 : Int) < 2147483399 by decide), ?_⟩⟩
      refine ⟨_, rfl, _, rfl, t, _, _, 3, rfl, rfl, hT1, rfl, ?_⟩
      refine ⟨_, rfl, _, _, rfl, rfl, ⟨by decide, by decide⟩, .inl ⟨_, rfl, _, rfl, _, _, rfl, rfl, s0, ?_⟩⟩
      exact q _ _ (Int.emod_nonneg _ (by omega)) (Int.emod_lt_of_pos _ s0) (goU (fun b o nb e => by rw [upd_ne nb]; exact k1 b o nb e) upd_same ⟨_, _, _, _, rfl, hp', (b2 _).1, Int.lt_trans (b2 _).2 (by decide)⟩)

theorem ok_law_sign (T : Tx K mg fI c_MadeError c_BadRow c_BadThing c_BadForm c_BadSign) (D : Dx K mg "_law_sign" s_law_sign ["tape"]) (C_law_pick : Pr P w K mg base 1 "_law_pick" ["tape", "size"] spPick) : Pr P w K mg base 2 "_law_sign" ["tape"] spSign := by
  refine D.pr sc_law_sign (fun vs H Q E h => ?_) (fun f cdv A outer s H vs Q E hr h => ⟨_,
      (pss_cons (ps_set (i := 1) sc_law_sign.nd rfl (Or.inl rfl) (pe_callP C_law_pick (hr.mono (by decide)) (by rfl) (passes_call (takes_of rfl rfl rfl rfl) fun _ _ _ _ z => z) (pa_cons (pv 0) (pa_cons pe_int pa_nil))))
      (pss_cons (ps_if (pt_cmpR op_eq (pv 1) pe_int (nomark _))
        (pss_one (ps_ret (pe_callP C_law_pick (hr.mono (by decide)) (by rfl) (passes_call (takes_of rfl rfl rfl rfl) fun _ _ _ _ z => z) (pa_cons (pv 0) (pa_cons pe_int pa_nil)))))
        pss_nil)
      (pss_cons (ps_if (pt_cmpR op_eq (pv 1) pe_int (nomark _))
        (pss_one (ps_ret (pe_op op_sub pe_int (pe_callP C_law_pick (hr.mono (by decide)) (by rfl) (passes_call (takes_of rfl rfl rfl rfl) fun _ _ _ _ z => z) (pa_cons (pv 0) (pa_cons pe_int pa_nil))))))
        pss_nil)
      (pss_one (ps_ret (pe_callP C_law_pick (hr.mono (by decide)) (by rfl) (passes_call (takes_of rfl rfl rfl rfl) fun _ _ _ _ z => z) (pa_cons (pv 0) (pa_cons pe_int pa_nil)))))))), ?_⟩)
  · obtain ⟨t, c, rfl, _⟩ := h
    rfl
  obtain ⟨t, c, rfl, hT, q⟩ := h
  refine ⟨_, rfl, t, c, 4, rfl, by decide, by decide, hT, fun d H1 d0 d1 g1 => ?_⟩
  refine ⟨_, rfl, rfl, _, rfl, ?_⟩
  refine ite2 (fun _ => ?_) (fun _ => ?_)
  · exact ⟨_, rfl, t, c, 100, rfl, by decide, by decide, g1.tape, fun e H2 e0 e1 g2 => q _ _ e0 e1 (g1.trans g2)⟩
  refine ⟨_, rfl, rfl, _, rfl, ?_⟩
  refine ite2 (fun _ => ?_) (fun _ => ?_)
  · exact ⟨_, rfl, t, c, 3, rfl, by decide, by decide, g1.tape, fun e H2 e0 e1 g2 => ⟨_, _, rfl, rfl, q _ _ (by omega) (by omega) (g1.trans g2)⟩⟩
  · exact ⟨_, rfl, t, c, 5, rfl, by decide, by decide, g1.tape, fun e H2 e0 e1 g2 => q _ _ e0 (by omega) (g1.trans g2)⟩

theorem ok_law_signs (T : Tx K mg fI c_MadeError c_BadRow c_BadThing c_BadForm c_BadSign) (D : Dx K mg "_law_signs" s_law_signs ["tape", "many"]) (C_law_sign : Pr P w K mg base 2 "_law_sign" ["tape"] spSign) : Pr P w K mg base 3 "_law_signs" ["tape", "many"] spSigns := by
  refine D.pr sc_law_signs (fun vs H Q E h => ?_) (fun f cdv A outer s H vs Q E hr h => ⟨_,
      (pss_cons (ps_set (i := 2) sc_law_signs.nd rfl (Or.inl rfl) (pe_lst pa_nil))
      (pss_cons (ps_for (passes_of rfl) rfl (pi_range1 (by rfl) T.n.n_range (pa_cons (pv 1) pa_nil)) (pg_name (i := 3) sc_law_signs.nd rfl (Or.inl rfl))
        (pss_one (ps_expr (pe_bm PySem.F.plainAttrs_list PySem.F.slot_list_append PySem.F.type_list_append mt_append (pv 2) (pa_cons (pe_callP C_law_sign (hr.mono (by decide)) (by rfl) (passes_call (takes_of rfl rfl rfl rfl) fun _ _ _ _ z => z) (pa_cons (pv 0) pa_nil)) pa_nil)))))
      (pss_one (ps_ret (pv 2))))), ?_⟩)
  · obtain ⟨t, c, many, rfl, _⟩ := h
    rfl
  obtain ⟨t, c, many, rfl, m0, m1, hT, q⟩ := h
  refine ⟨Nat.zero_le _, fun p np => ?_⟩
  have pt := hT.there np
  refine ⟨_, rfl, _, rfl, by omega, by omega, for_range (lo := 0) (n := many.toNat) (fun i σ H' => ∃ (ns : List Int) (y : Option V), σ = [some (.ref t), some (.int many), some (.ref p), y] ∧ ns.length = i ∧ Sgn ns ∧ Go t c H H' ∧ H' p = some (.lst (ns.map V.int)))
    ⟨[], none, rfl, rfl, (fun z h => nomatch h), (Go.refl hT).new np, upd_same⟩ ?_ ?_⟩
  · rintro i σ H' hi ⟨ns, y, rfl, rfl, hs, g, hp⟩
    refine ⟨_, rfl, .inl ⟨rfl, _, SqL.of hp⟩, _, rfl, t, c, rfl, g.tape, fun d H2 d0 d1 g2 => ?_⟩
    have hp2 : H2 p = some (.lst (ns.map V.int)) := g2.keep p _ pt.1 hp
    refine ⟨p, _, _, rfl, rfl, hp2, Nat.lt_of_le_of_lt (m := 10000) (by rw [List.length_map]; omega) (by decide), ?_⟩
    refine ⟨ns ++ [d], _, rfl, by rw [List.length_append]; rfl, fun z hz => ?_, (g.trans g2).mut np pt, by rw [upd_same, List.map_append]; rfl⟩
    rcases List.mem_append.mp hz with h | h
    · exact hs z h
    · rw [List.mem_singleton.mp h]
      exact ⟨d0, d1⟩
  · rintro σ H' ⟨ns, y, rfl, hl, hs, g, hp⟩
    exact ⟨_, rfl, q p ns H' (by omega) hs np g hp⟩

def spLaw (K : PySem.W.Frag) : Sp := fun vs H Q _ => ∃ (a : Addr) (ns : List Int), vs = [.ref a] ∧ SqL K H a (ns.map V.int) ∧ ns.length ≤ 63 ∧ ∀ H', Q (.bl true) H'
theorem ok_law {f : Addr} {fd : FuncData} (T : Tx K mg fI c_MadeError c_BadRow c_BadThing c_BadForm c_BadSign) (F : Fun K "law" "law" s_law f fd) (C_law_tape : Pr P w K mg base 1 "_law_tape" ["script"] (spTape K)) (C_law_pick : Pr P w K mg base 1 "_law_pick" ["tape", "size"] spPick) (C_law_sign : Pr P w K mg base 2 "_law_sign" ["tape"] spSign) (C_law_signs : Pr P w K mg base 3 "_law_signs" ["tape", "many"] spSigns) (C_is_thing : Pr P w K mg base 4 "is_thing" ["row"] (spD K dThing)) (C_form_of : Pr P w K mg base 5 "form_of" ["thing"] (spThing1 K c_BadThing dFst)) (C_number_of : Pr P w K mg base 5 "number_of" ["thing"] (spThing1 K c_BadThing dSnd)) (C_body_of : Pr P w K mg base 6 "body_of" ["thing"] (spBodyOf K c_BadThing)) (C_thing_of : Pr P w K mg base 4 "thing_of" ["form", "number", "body"] (spThingOf K c_BadForm c_BadSign c_BadRow)) : FnOk P w K mg base (L2.CX P w) 7 f fd ["script"] (spLaw K) := by
  refine F.okX sc_law (fun vs H Q E h => ?_) (fun cdv A outer s H vs Q E hr h => ⟨_,
      (pss_cons (ps_set (i := 1) sc_law.nd rfl (Or.inl rfl) (pe_callP C_law_tape (hr.mono (by decide)) (by rfl) (passes_call (takes_of rfl rfl rfl rfl) fun _ _ _ _ z => z) (pa_cons (pv 0) pa_nil)))
      (pss_cons (ps_set (i := 2) sc_law.nd rfl (Or.inl rfl) (pe_callP C_law_pick (hr.mono (by decide)) (by rfl) (passes_call (takes_of rfl rfl rfl rfl) fun _ _ _ _ z => z) (pa_cons (pv 1) (pa_cons pe_int pa_nil))))
      (pss_cons (ps_set (i := 3) sc_law.nd rfl (Or.inl rfl) (pe_callP C_law_sign (hr.mono (by decide)) (by rfl) (passes_call (takes_of rfl rfl rfl rfl) fun _ _ _ _ z => z) (pa_cons (pv 1) pa_nil)))
      (pss_cons (ps_set (i := 4) sc_law.nd rfl (Or.inl rfl) (pe_callP C_law_pick (hr.mono (by decide)) (by rfl) (passes_call (takes_of rfl rfl rfl rfl) fun _ _ _ _ z => z) (pa_cons (pv 1) (pa_cons pe_int pa_nil))))
      (pss_cons (ps_set (i := 5) sc_law.nd rfl (Or.inl rfl) (pe_callP C_law_signs (hr.mono (by decide)) (by rfl) (passes_call (takes_of rfl rfl rfl rfl) fun _ _ _ _ z => z) (pa_cons (pv 1) (pa_cons (pe_callP C_law_pick (hr.mono (by decide)) (by rfl) (passes_call (takes_of rfl rfl rfl rfl) fun _ _ _ _ z => z) (pa_cons (pv 1) (pa_cons pe_int pa_nil))) pa_nil))))
      (Evl.pss_cut (ps_if (pt_cmpR op_eq (pe_callP C_law_pick (hr.mono (by decide)) (by rfl) (passes_call (takes_of rfl rfl rfl rfl) fun _ _ _ _ z => z) (pa_cons (pv 1) (pa_cons pe_int pa_nil))) pe_int (nomark _))
        (pss_cons (ps_set (i := 5) sc_law.nd rfl (Or.inl rfl) (pe_slice sl_list (pe_op op_rep (pe_op op_cat (pv 5) (pe_lst (pa_cons pe_int (pa_cons pe_int pa_nil)))) pe_int) po_none (po_some (pe_op op_add pe_int (pe_callP C_law_pick (hr.mono (by decide)) (by rfl) (passes_call (takes_of rfl rfl rfl rfl) fun _ _ _ _ z => z) (pa_cons (pv 1) (pa_cons pe_int pa_nil)))))))
        (pss_one (ps_expr (pe_bm PySem.F.plainAttrs_list PySem.F.slot_list_append PySem.F.type_list_append mt_append (pv 5) (pa_cons (pe_callP C_law_sign (hr.mono (by decide)) (by rfl) (passes_call (takes_of rfl rfl rfl rfl) fun _ _ _ _ z => z) (pa_cons (pv 1) pa_nil)) pa_nil)))))
        pss_nil)
      (pss_cons (ps_set (i := 5) sc_law.nd rfl (Or.inl rfl) (pe_callTy call_tuple_of (by rfl) T.n.n_tuple (by decide +kernel) (pa_cons (pv 5) pa_nil)))
      (pss_cons (ps_set (i := 6) sc_law.nd rfl (Or.inl rfl) (pe_lst (pa_cons pe_int (pa_cons pe_int (pa_cons pe_int (pa_cons pe_int (pa_cons pe_int pa_nil)))))))
      (pss_cons (ps_set (i := 7) sc_law.nd rfl (Or.inl rfl) (pe_lst pa_nil))
      (pss_cons (ps_for (passes_of rfl) rfl (pi_range1 (by rfl) T.n.n_range (pa_cons pe_int pa_nil)) (pg_name (i := 8) sc_law.nd rfl (Or.inl rfl))
        (pss_one (ps_expr (pe_bm PySem.F.plainAttrs_list PySem.F.slot_list_append PySem.F.type_list_append mt_append (pv 7) (pa_cons (pe_bm PySem.F.plainAttrs_list PySem.F.slot_list_pop PySem.F.type_list_pop mt_popAt (pv 6) (pa_cons (pe_callP C_law_pick (hr.mono (by decide)) (by rfl) (passes_call (takes_of rfl rfl rfl rfl) fun _ _ _ _ z => z) (pa_cons (pv 1) (pa_cons (pe_callB call_len (by rfl) T.n.n_len (by decide +kernel) (pa_cons (pv 6) pa_nil)) pa_nil))) pa_nil)) pa_nil)))))
      (pss_cons (ps_set (i := 9) sc_law.nd rfl (Or.inl rfl) (pe_callP C_thing_of (hr.mono (by decide)) (by rfl) (passes_call (takes_of rfl rfl rfl rfl) fun _ _ _ _ z => z) (pa_cons (pv 2) (pa_cons (pv 3) (pa_cons (pv 5) pa_nil)))))
      (pss_cons (ps_set (i := 10) sc_law.nd rfl (Or.inl rfl) (pe_lst pa_nil))
      (pss_cons (ps_set (i := 11) sc_law.nd rfl (Or.inl rfl) (pv 9))
      (pss_cons (ps_for (passes_of rfl) rfl (pi_list (pe_op op_cat (pv 7) (pe_lst (pa_cons (pv 2) pa_nil)))) (pg_name (i := 12) sc_law.nd rfl (Or.inl rfl))
        (pss_cons (ps_set (i := 11) sc_law.nd rfl (Or.inl rfl) (pe_callP C_thing_of (hr.mono (by decide)) (by rfl) (passes_call (takes_of rfl rfl rfl rfl) fun _ _ _ _ z => z) (pa_cons (pv 12) (pa_cons (pv 4) (pa_cons (pe_callP C_body_of (hr.mono (by decide)) (by rfl) (passes_call (takes_of rfl rfl rfl rfl) fun _ _ _ _ z => z) (pa_cons (pv 11) pa_nil)) pa_nil)))))
        (pss_cons (ps_if (PW.pt (pw_or (pt_not (pt_val (pe_callP C_is_thing (hr.mono (by decide)) (by rfl) (passes_call (takes_of rfl rfl rfl rfl) fun _ _ _ _ z => z) (pa_cons (pv 11) pa_nil)))) (pw_or (pt_cmpR op_ne (pe_callP C_form_of (hr.mono (by decide)) (by rfl) (passes_call (takes_of rfl rfl rfl rfl) fun _ _ _ _ z => z) (pa_cons (pv 11) pa_nil)) (pv 12) (nomark _)) (pw_or (pt_cmpR op_ne (pe_callP C_number_of (hr.mono (by decide)) (by rfl) (passes_call (takes_of rfl rfl rfl rfl) fun _ _ _ _ z => z) (pa_cons (pv 11) pa_nil)) (pv 4) (nomark _)) (pw_or1 (pt_cmpR (op_neT hr.units) (pe_callP C_body_of (hr.mono (by decide)) (by rfl) (passes_call (takes_of rfl rfl rfl rfl) fun _ _ _ _ z => z) (pa_cons (pv 11) pa_nil)) (pv 5) (nomark _)))))))
          (pss_one (ps_ret pe_bl))
          pss_nil)
        (pss_cons (ps_if (PW.pt (pw_and (pt_cmpR op_eq (pv 12) pe_int (nomark _)) (pw_and1 (pt_cmpR (op_neT hr.units) (pe_slice sl_tupA (pv 11) (po_some pe_int) po_none) (pv 5) (nomark _)))))
          (pss_one (ps_ret pe_bl))
          pss_nil)
        (pss_cons (ps_if (pt_cmpR op_ne (pe_callB call_len (by rfl) T.n.n_len (by decide +kernel) (pa_cons (pv 11) pa_nil)) (pe_op op_add pe_int (pe_callB call_len (by rfl) T.n.n_len (by decide +kernel) (pa_cons (pv 5) pa_nil))) (nomark _))
          (pss_one (ps_ret pe_bl))
          pss_nil)
        (pss_one (ps_expr (pe_bm PySem.F.plainAttrs_list PySem.F.slot_list_append PySem.F.type_list_append mt_append (pv 10) (pa_cons (pv 11) pa_nil)))))))))
      (pss_cons (ps_for (passes_of rfl) rfl (pi_range1 (by rfl) T.n.n_range (pa_cons pe_int pa_nil)) (pg_name (i := 13) sc_law.nd rfl (Or.inl rfl))
        (pss_one (ps_for (passes_of rfl) rfl (pi_range1 (by rfl) T.n.n_range (pa_cons (pv 13) pa_nil)) (pg_name (i := 14) sc_law.nd rfl (Or.inl rfl))
          (pss_one (ps_if (pt_cmpR (op_eqT hr.units) (pe_ix ix_list (pv 10) (pv 13) (fun _ _ => rfl)) (pe_ix ix_list (pv 10) (pv 14) (fun _ _ => rfl)) (nomark _))
            (pss_one (ps_ret pe_bl))
            pss_nil)))))
      (pss_cons (ps_if (pt_cmpR (op_neT hr.units) (pe_callP C_thing_of (hr.mono (by decide)) (by rfl) (passes_call (takes_of rfl rfl rfl rfl) fun _ _ _ _ z => z) (pa_cons (pv 2) (pa_cons (pv 3) (pa_cons (pe_callP C_body_of (hr.mono (by decide)) (by rfl) (passes_call (takes_of rfl rfl rfl rfl) fun _ _ _ _ z => z) (pa_cons (pv 11) pa_nil)) pa_nil)))) (pv 9) (nomark _))
        (pss_one (ps_ret pe_bl))
        pss_nil)
      (pss_cons (ps_if (pt_cmpR op_eq (pv 4) (pv 3) (nomark _))
        (pss_one (ps_ret (pe_cmpR (op_eqT hr.units) (pv 11) (pv 9) (nomark _))))
        pss_nil)
      (pss_one (ps_ret (pe_and (pe_cmpR (op_neT hr.units) (pv 11) (pv 9) (nomark _)) (pe_and (pe_cmpR (op_eqT hr.units) (pe_slice sl_tupA (pv 11) (po_some pe_int) po_none) (pe_slice sl_tupA (pv 9) (po_some pe_int) po_none) (nomark _)) (pe_one (pe_cmpR op_eq (pe_ix ix_tup (pv 11) pe_int (fun _ _ => rfl)) (pe_ix ix_tup (pv 9) pe_int (fun _ _ => rfl)) (nomark _)))))))))))))))))))))))), ?_⟩)
  · obtain ⟨a, ns, rfl, _⟩ := h
    rfl
  obtain ⟨a, ns, rfl, hS, hl, q⟩ := h
  refine ⟨_, rfl, a, ns, rfl, hS, hl, fun t c H1 nt s1 T1 => ?_⟩
  refine ⟨_, rfl, t, c, 5, rfl, by decide, by decide, T1, fun form H2 f0 f1 g2 => ?_⟩
  refine ⟨_, rfl, t, c, rfl, g2.tape, fun number H3 n0 n1 g3 => ?_⟩
  refine ⟨_, rfl, t, c, 100, rfl, by decide, by decide, g3.tape, fun other H4 o0 o1 g4 => ?_⟩
  refine ⟨_, rfl, _, rfl, t, c, 13, rfl, by decide, by decide, g4.tape, fun many H5 m0 m1 g5 => ?_⟩
  refine ⟨t, c, many, rfl, m0, by omega, g5.tape, fun pl bs0 H6 hbl hbs np g6 hp => ?_⟩
  have pt := g5.tape.there np
  -- the body, long or short
  refine ⟨fun σ' H' => ∃ (bs : List Int) (p : Addr), σ' = [some (.ref a), some (.ref t), some (.int form), some (.int number), some (.int other), some (.ref p), none, none, none, none, none, none, none, none, none] ∧
    Sgn bs ∧ bs.length ≤ 900000 ∧ TapeAt H' t c ∧ H' p = some (.lst (bs.map V.int)), ?_, ?_⟩
  · refine ⟨_, rfl, t, c, 8, rfl, by decide, by decide, g6.tape, fun d H7 d0 d1 g7 => ?_⟩
    have hp7 := g7.keep pl _ pt.1 hp
    refine ⟨rfl, _, rfl, ?_⟩
    refine ite2 (fun _ => ?_) (fun _ => ?_)
    · refine ⟨_, rfl, by show 2 ≤ sizeLine; decide, fun p2 np2 => ?_⟩
      have k2 : pl ≠ p2 := ne_of_none hp7 np2
      have hlen : bs0.length ≤ 12 := by omega
      refine ⟨pl, p2, _, _, rfl, rfl, by rw [upd_ne k2]; exact hp7, upd_same, ?_, fun p3 np3 => ?_⟩
      · rw [List.length_map]
        exact Nat.le_trans (show bs0.length + 2 ≤ 14 by omega) (by decide)
      refine ⟨p3, 1000, _, rfl, rfl, upd_same, by decide, by decide, ?_, fun p4 np4 => ?_⟩
      · rw [List.length_append, List.length_map]
        show (bs0.length + 2) * 1000 ≤ sizeLine
        exact Nat.le_trans (show (bs0.length + 2) * 1000 ≤ 14000 by omega) (by decide)
      generalize hH8 : upd (upd (upd H7 p2 _) p3 _) p4 _ = H8
      have h4 : H8 p4 = some (.lst ((List.replicate (Int.toNat 1000) (bs0 ++ [99, 0])).flatten.map V.int)) := by
        rw [← hH8, upd_same, List.map_flatten, List.map_replicate, List.map_append]
        rfl
      have s8 : Same H7 H8 := by
        rw [← hH8]
        exact ((same_new np2).trans (same_new np3)).trans (same_new np4)
      have T8 : TapeAt H8 t c := g7.tape.keeps s8
      clear hH8 np2 np3 np4
      refine ⟨_, rfl, t, c, 1701, rfl, by decide, by decide, T8, fun d2 H9 e0 e1 g9 => ?_⟩
      have h49 := g9.keep p4 _ (fun e => by
        obtain ⟨T, e1, xs, _, _, _, _, rfl, _⟩ := T8
        rw [e, e1] at h4
        have z := congrArg (fun o => match o with | some (HO.lst (V.ref _ :: _)) => true | _ => false) h4
        cases hx : (List.replicate (Int.toNat 1000) (bs0 ++ [99, 0])).flatten with
        | nil => rw [hx] at z; cases z
        | cons y ys => rw [hx] at z; cases z) h4
      refine ⟨300, d2, rfl, rfl, _, rfl, p4, _, rfl, SqL.of h49, fun p5 np5 => ?_⟩
      have pt5 := g9.tape.there np5
      have T10 : TapeAt (upd H9 p5 (.lst (cutV ((List.replicate (Int.toNat 1000) (bs0 ++ [99, 0])).flatten.map V.int) none (some (300 + d2))))) t c := g9.tape.keeps (same_new np5)
      refine ⟨_, rfl, .inl ⟨rfl, _, SqL.of upd_same⟩, _, rfl, t, c, rfl, T10, fun z H11 z0 z1 g11 => ?_⟩
      have h11 := g11.keep p5 _ pt5.1 upd_same
      have ecut : ∃ cs : List Int, cutV ((List.replicate (Int.toNat 1000) (bs0 ++ [99, 0])).flatten.map V.int) none (some (300 + d2)) = cs.map V.int ∧ Sgn cs ∧ cs.length ≤ 14000 := by
        refine ⟨((List.replicate (Int.toNat 1000) (bs0 ++ [99, 0])).flatten.drop _).take _, by unfold cutV; rw [← List.map_drop, ← List.map_take], fun z hz => ?_, ?_⟩
        · have h1 := List.mem_of_mem_drop (List.mem_of_mem_take hz)
          obtain ⟨l, hl1, hl2⟩ := List.mem_flatten.mp h1
          rw [List.eq_of_mem_replicate hl1] at hl2
          rcases List.mem_append.mp hl2 with h | h
          · exact hbs z h
          · rcases List.mem_cons.mp h with e | h
            · omega
            · rw [List.mem_singleton.mp h]
              omega
        · refine Nat.le_trans (List.length_take_le' _ _) ?_
          have hfl : (List.replicate (Int.toNat 1000) (bs0 ++ [99, 0])).flatten.length = 1000 * (bs0.length + 2) := by rw [rep_len, List.length_append]; rfl
          rw [List.length_drop, hfl]
          omega
      obtain ⟨cs, ec, hc1, hc2⟩ := ecut
      rw [ec] at h11
      refine ⟨p5, _, _, rfl, rfl, h11, ?_, cs ++ [z], p5, rfl, fun y hy => ?_, by rw [List.length_append]; show cs.length + 1 ≤ _; omega, ?_, by rw [upd_same, List.map_append]; rfl⟩
      · rw [List.length_map]
        exact Nat.lt_of_le_of_lt hc2 (by decide)
      · rcases List.mem_append.mp hy with h | h
        · exact hc1 y h
        · rw [List.mem_singleton.mp h]
          exact ⟨z0, z1⟩
      · exact ((((Go.refl g9.tape).new np5).trans g11).mut np5 pt5).tape
    · exact ⟨bs0, pl, rfl, hbs, by omega, g7.tape, hp7⟩
  rintro σ' H' ⟨bs, p, rfl, hbs, hbl, T2, hp⟩
  -- body = tuple(body)
  refine ⟨_, rfl, p, _, rfl, .inl ⟨SqL.of hp, fun pb npb => ?_⟩⟩
  have hB : (upd H' pb (.tup (bs.map V.int))) pb = some (.tup (bs.map V.int)) := upd_same
  have T3 : TapeAt (upd H' pb (.tup (bs.map V.int))) t c := T2.keeps (same_new npb)
  generalize upd H' pb (.tup (bs.map V.int)) = H0' at hB T3 ⊢
  -- left, order
  refine ⟨by show 5 ≤ sizeLine; decide, fun pl npl => ⟨Nat.zero_le _, fun po npo => ?_⟩⟩
  have npl' := npl
  have lo : pl ≠ po := fun e => by
    rw [← e, upd_same] at npo
    cases npo
  have npo' : H0' po = none := (same_new npl).free npo
  have ptl := T3.there npl
  have pto := T3.there npo'
  have bl : pb ≠ pl := ne_of_none hB npl
  have bo : pb ≠ po := ne_of_none hB npo'
  refine ⟨_, rfl, by decide, by decide, for_range (lo := 0) (n := 5) (fun i σ H => ∃ (ls os : List Int) (y : Option V), σ = [some (.ref a), some (.ref t), some (.int form), some (.int number), some (.int other), some (.ref pb), some (.ref pl), some (.ref po), y, none, none, none, none, none, none] ∧
    H pl = some (.lst (ls.map V.int)) ∧ H po = some (.lst (os.map V.int)) ∧ os.length = i ∧ (os ++ ls).Perm [0, 1, 2, 3, 4] ∧ TapeAt H t c ∧ H pb = some (.tup (bs.map V.int)))
    ⟨[0, 1, 2, 3, 4], [], none, rfl, by rw [upd_ne lo]; exact upd_same, upd_same, rfl, .refl _, (T3.keeps (same_new npl)).keeps (same_new npo), by rw [upd_ne bo, upd_ne bl]; exact hB⟩ ?_ ?_⟩
  · rintro i σ H9 hi ⟨ls, os, y, rfl, hpl, hpo, hos, pe, T9, hb9⟩
    have hlen : os.length + ls.length = 5 := by
      have z := pe.length_eq
      rw [List.length_append] at z
      exact z
    refine ⟨_, rfl, .inl ⟨rfl, _, SqL.of hpo⟩, _, rfl, .inl ⟨rfl, _, SqL.of hpl⟩, _, rfl, _, rfl, _, _, rfl, .inl ⟨_, SqL.of hpl, rfl⟩, t, c, _, rfl, by rw [List.length_map]; omega, by rw [List.length_map]; omega, T9, fun d H10 d0 d1 g10 => ?_⟩
    have hpl' := g10.keep pl _ ptl.1 hpl
    have hpo' := g10.keep po _ pto.1 hpo
    have hb' := g10.keep pb _ (fun e => by
      obtain ⟨T, e1, _⟩ := T9
      rw [e, e1] at hb9
      cases hb9) hb9
    obtain ⟨k, rfl⟩ := Int.eq_ofNat_of_zero_le d0
    rw [List.length_map] at d1
    have hk : k < ls.length := by omega
    refine ⟨pl, _, (k : Int), k, .int ls[k], rfl, rfl, hpl', by omega, by omega, ?_, by rw [List.getElem?_map, List.getElem?_eq_getElem hk]; rfl, ?_⟩
    · rw [List.length_map]
      exact PySem.StrLaws.seqIndex_nonneg (by omega) (by omega)
    refine ⟨po, _, _, rfl, rfl, by rw [upd_ne lo.symm]; exact hpo', ?_, ?_⟩
    · rw [List.length_map]
      exact Nat.lt_of_le_of_lt (show os.length ≤ 5 by omega) (by decide)
    refine ⟨ls.eraseIdx k, os ++ [ls[k]], _, rfl, ?_, by rw [upd_same, List.map_append]; rfl, by rw [List.length_append]; show os.length + 1 = _; omega, ?_, ?_, by rw [upd_ne bo, upd_ne bl]; exact hb'⟩
    · rw [upd_ne lo, upd_same, erase_map]
    · refine List.Perm.trans ?_ pe
      rw [List.append_assoc]
      exact List.Perm.append_left os (erase_perm (List.getElem?_eq_getElem hk))
    · exact (g10.tape.mut ptl).mut pto
  rintro σ H9 ⟨ls, os, y, rfl, hpl, hpo, hos, pe, T9, hb9⟩
  have els : ls = [] := by
    have z := pe.length_eq
    rw [List.length_append, hos] at z
    exact List.eq_nil_of_length_eq_zero (by show ls.length = 0; have z' : 5 + ls.length = 5 := z; omega)
  rw [els, List.append_nil] at pe
  have osf : ∀ z ∈ os, 0 ≤ z ∧ z < 5 := fun z hz => by
    have h := pe.mem_iff.mp hz
    simp at h
    omega
  have osd : os.Nodup := pe.nodup_iff.mpr (by decide)
  -- thing = thing_of(form, number, body)
  refine ⟨_, rfl, _, rfl, _, rfl, thing_ok f0 f1 n0 n1 hbs (by omega) hb9 fun pt H10 s10 ht10 => ?_⟩
  have hb10 := s10 _ _ hb9
  have hpo10 := s10 _ _ hpo
  refine ⟨Nat.zero_le _, fun pr npr => ?_⟩
  have rb : pb ≠ pr := ne_of_none hb10 npr
  have rt : pt ≠ pr := ne_of_none ht10 npr
  have ro : po ≠ pr := ne_of_none hpo10 npr
  refine ⟨_, rfl, _, rfl, _, rfl, by show 1 ≤ sizeLine; decide, fun pf npf => ?_⟩
  have hpo11 : upd H10 pr (.lst []) po = some (.lst (os.map V.int)) := by rw [upd_ne ro]; exact hpo10
  refine ⟨po, pf, _, _, rfl, rfl, by rw [upd_ne (ne_of_none hpo11 npf)]; exact hpo11, upd_same, by rw [List.length_map]; exact Nat.le_trans (show os.length + 1 ≤ 6 by omega) (by decide), fun pq npq => ?_⟩
  generalize hH12 : upd (upd (upd H10 pr (.lst [])) pf (.lst [V.int form])) pq _ = H12
  have s12 : Same H10 H12 := by
    rw [← hH12]
    exact ((same_new npr).trans (same_new npf)).trans (same_new npq)
  have hpr12 : H12 pr = some (.lst []) := by
    have k1 : pr ≠ pf := fun e => by rw [← e, upd_same] at npf; cases npf
    have k2 : pr ≠ pq := fun e => by rw [← e, upd_ne k1, upd_same] at npq; cases npq
    rw [← hH12, upd_ne k2, upd_ne k1, upd_same]
  have hpq12 : H12 pq = some (.lst ((os ++ [form]).map V.int)) := by
    rw [← hH12, upd_same, List.map_append]
    rfl
  have rq : pq ≠ pr := fun e => by
    rw [e, hpr12] at hpq12
    have z := congrArg (fun o => match o with | some (HO.lst (_ :: _)) => true | _ => false) hpq12
    cases os <;> cases z
  have hb12 := s12 _ _ hb10
  have ht12 := s12 _ _ ht10
  clear hH12 npf npq hpo11
  have bnd : ∀ z ∈ os ++ [form], 0 ≤ z ∧ z < 5 := fun z hz => by
    rcases List.mem_append.mp hz with h | h
    · exact osf z h
    · rw [List.mem_singleton.mp h]
      exact ⟨f0, f1⟩
  have seqlen : (os ++ [form]).length = 6 := by rw [List.length_append, hos]; rfl
  generalize hsq : os ++ [form] = sq at hpq12 bnd seqlen
  refine ⟨pq, rfl, ⟨_, SqL.of hpq12⟩, for_list (xs := sq.map V.int) (fun i σ H => ∃ (nf nn : Int) (pn : Addr) (rs : List V) (y12 : Option V),
      σ = [some (.ref a), some (.ref t), some (.int form), some (.int number), some (.int other), some (.ref pb), some (.ref pl), some (.ref po), y, some (.ref pt), some (.ref pr), some (.ref pn), y12, none, none] ∧
      H pn = some (.tup ((thg nf nn bs).map V.int)) ∧ 0 ≤ nf ∧ nf < 5 ∧ 0 ≤ nn ∧ nn < 100 ∧ H pr = some (.lst rs) ∧ rs.length = i ∧ (∀ j f, j < i → sq[j]? = some f → ∃ ra, rs[j]? = some (.ref ra) ∧ H ra = some (.tup ((thg f other bs).map V.int))) ∧
      (∀ f, 0 < i → sq[i - 1]? = some f → nf = f ∧ nn = other) ∧ H pb = some (.tup (bs.map V.int)) ∧ H pt = some (.tup ((thg form number bs).map V.int)) ∧ H pq = some (.lst (sq.map V.int)))
    ⟨form, number, pt, [], none, rfl, ht12, f0, f1, n0, n1, hpr12, rfl, fun j f hj => absurd hj (Nat.not_lt_zero _), fun f hj => absurd hj (Nat.lt_irrefl _), hb12, ht12, hpq12⟩ (fun i σ H _ h => ?_) ?_ ?_⟩
  · obtain ⟨_, _, _, _, _, _, _, _, _, _, _, _, _, _, _, _, _, h⟩ := h
    exact SqL.of h
  · rintro i x σ H hx ⟨nf, nn, pn, rs, y12, rfl, hpn, nf0, nf1, nn0, nn1, hpr, hrs, hrow, hlast, hb, ht, hq⟩
    obtain ⟨to, hto, rfl⟩ : ∃ to, sq[i]? = some to ∧ x = V.int to := by
      rw [List.getElem?_map] at hx
      cases hn : sq[i]? with
      | none => rw [hn] at hx; cases hx
      | some z => rw [hn] at hx; exact ⟨z, rfl, (Option.some.inj hx).symm⟩
    have hti := bnd to (List.mem_of_getElem? hto)
    have hi6 : i < 6 := by rw [← seqlen]; exact (List.getElem?_eq_some_iff.mp hto).1
    -- now = thing_of(to, other, body_of(now))
    refine ⟨_, rfl, _, rfl, _, rfl, body_ok nf0 nf1 nn0 nn1 hbs (by omega) hpn fun q1 H13 s13 e13 => ?_⟩
    refine thing_ok hti.1 hti.2 o0 o1 hbs (by omega) e13 fun q2 H14 s14 e14 => ?_
    have s24 := s13.trans s14
    -- the first if
    refine ⟨_, rfl, _, _, rfl, da_thg e14, fun H15 s15 => ⟨_, rfl, ?_⟩⟩
    rw [dThing_thg hti.1 hti.2 o0 o1]
    refine iteF ?_
    refine ⟨_, rfl, form_ok hti.1 hti.2 o0 o1 (s15 _ _ e14) fun H16 s16 => ⟨_, rfl, rfl, _, rfl, ?_⟩⟩
    rw [show (!decide (V.int to = V.int to)) = false by simp]
    refine iteF ⟨_, rfl, number_ok hti.1 hti.2 o0 o1 ((s15.trans s16) _ _ e14) fun H17 s17 => ⟨_, rfl, rfl, _, rfl, ?_⟩⟩
    rw [show (!decide (V.int other = V.int other)) = false by simp]
    have s27 := (s24.trans s15).trans (s16.trans s17)
    have e17 := ((s15.trans s16).trans s17) _ _ e14
    refine iteF ⟨_, rfl, body_ok hti.1 hti.2 o0 o1 hbs (by omega) e17 fun q3 H18 s18 e18 => ⟨_, rfl, q3, pb, bs, bs, rfl, rfl, SqT.of e18, SqT.of (s18 _ _ (s27 _ _ hb)), _, rfl, ?_⟩⟩
    rw [show (!decide (bs = bs)) = false by simp]
    refine iteF ?_
    have s28 := s27.trans s18
    have e18' := s18 _ _ e17
    have hb18 := s28 _ _ hb
    have ecut : ∀ f n : Int, cutV ((thg f n bs).map V.int) (some 2) none = (shiftI (20 * f) bs).map V.int := fun f n => by
      unfold cutV
      rw [show HT.sIx ((thg f n bs).map V.int).length 0 (some 2) = min 2 ((thg f n bs).map V.int).length from HT.sIx_nat _ 0 2, HT.sIx_none, List.length_map, thg_len, show min 2 (bs.length + 2) = 2 by omega]
      show List.take _ ((shiftI (20 * f) bs).map V.int) = _
      apply List.take_of_length_le
      rw [List.length_map, shift_len]
      omega
    have ncut : ∀ f n : Int, ¬ (HT.sIx ((thg f n bs).map V.int).length 0 (some 2) = 0 ∧ HT.sIx ((thg f n bs).map V.int).length ((thg f n bs).map V.int).length none = ((thg f n bs).map V.int).length) := fun f n z => by
      have z1 := z.1
      rw [show HT.sIx ((thg f n bs).map V.int).length 0 (some 2) = min 2 ((thg f n bs).map V.int).length from HT.sIx_nat _ 0 2, List.length_map, thg_len] at z1
      omega
    -- if to == 0 and now[2:] != body
    refine ⟨_, rfl, rfl, _, rfl, ?_⟩
    have fin : ∀ H19 : Hp, Same H18 H19 → ∃ (nf nn : Int) (pn : Addr) (rs' : List V) (y12 : Option V),
      ([some (.ref a), some (.ref t), some (.int form), some (.int number), some (.int other), some (.ref pb), some (.ref pl), some (.ref po), y, some (.ref pt), some (.ref pr), some (.ref q2), some (.int to), none, none] : List (Option V)) = [some (.ref a), some (.ref t), some (.int form), some (.int number), some (.int other), some (.ref pb), some (.ref pl), some (.ref po), y, some (.ref pt), some (.ref pr), some (.ref pn), y12, none, none] ∧
      (upd H19 pr (.lst (rs ++ [.ref q2]))) pn = some (.tup ((thg nf nn bs).map V.int)) ∧ 0 ≤ nf ∧ nf < 5 ∧ 0 ≤ nn ∧ nn < 100 ∧ (upd H19 pr (.lst (rs ++ [.ref q2]))) pr = some (.lst rs') ∧ rs'.length = i + 1 ∧ (∀ j f, j < i + 1 → sq[j]? = some f → ∃ ra, rs'[j]? = some (.ref ra) ∧ (upd H19 pr (.lst (rs ++ [.ref q2]))) ra = some (.tup ((thg f other bs).map V.int))) ∧
      (∀ f, 0 < i + 1 → sq[i + 1 - 1]? = some f → nf = f ∧ nn = other) ∧ (upd H19 pr (.lst (rs ++ [.ref q2]))) pb = some (.tup (bs.map V.int)) ∧ (upd H19 pr (.lst (rs ++ [.ref q2]))) pt = some (.tup ((thg form number bs).map V.int)) ∧ (upd H19 pr (.lst (rs ++ [.ref q2]))) pq = some (.lst (sq.map V.int)) := fun H19 s19 => by
      have s29 := s28.trans s19
      have tup_ne : ∀ {b : Addr} {xs : List V}, H b = some (.tup xs) → b ≠ pr := fun {b xs} e z => by
        rw [z, hpr] at e
        cases e
      have q2r : q2 ≠ pr := fun z => by
        have z1 := s19 _ _ e18'
        have z2 := s29 _ _ hpr
        rw [z, z2] at z1
        cases z1
      refine ⟨to, other, q2, rs ++ [.ref q2], some (.int to), rfl, by rw [upd_ne q2r]; exact s19 _ _ e18', hti.1, hti.2, o0, o1, upd_same, by rw [List.length_append, hrs]; rfl, fun j f hj ef => ?_, fun f _ ef => ?_, by rw [upd_ne (tup_ne hb)]; exact s29 _ _ hb, by rw [upd_ne (tup_ne ht)]; exact s29 _ _ ht, by rw [upd_ne rq]; exact s29 _ _ hq⟩
      · by_cases c : j = i
        · rw [c, hto] at ef
          cases ef
          refine ⟨q2, ?_, by rw [upd_ne q2r]; exact s19 _ _ e18'⟩
          rw [c, ← hrs, List.getElem?_append_right (Nat.le_refl _), Nat.sub_self]
          rfl
        · obtain ⟨ra, r1, r2⟩ := hrow j f (by omega) ef
          refine ⟨ra, ?_, by rw [upd_ne (tup_ne r2)]; exact s29 _ _ r2⟩
          rw [List.getElem?_append_left (by omega)]
          exact r1
      · rw [Nat.add_sub_cancel, hto] at ef
        cases ef
        exact ⟨rfl, rfl⟩
    by_cases c0 : to = 0
    · subst c0
      refine iteT ⟨_, rfl, 2, rfl, q2, _, rfl, SqT.of e18', fun z => absurd z (ncut _ _), fun _ p19 n19 => ?_⟩
      refine ⟨_, rfl, p19, pb, shiftI (20 * 0) bs, bs, rfl, rfl, SqT.of (by rw [upd_same, ecut]), SqT.of ((same_new n19) _ _ hb18), _, rfl, ?_⟩
      have e0 : shiftI (20 * 0) bs = bs := by
        have z := shift_back (f := 0) hbs
        have z2 : shiftI (20 * 0) (shiftI (20 * 0) bs) = bs := z
        have z3 : shiftI (20 * 0) bs = bs := by
          unfold shiftI
          have e : ∀ z ∈ bs, (fun z => (z + 20 * 0) % 100) z = id z := fun z hz => by
            have q := hbs z hz
            show (z + 20 * 0) % 100 = z
            omega
          rw [List.map_congr_left e, List.map_id]
        exact z3
      rw [e0, show (!decide (bs = bs)) = false by simp]
      refine iteF ?_
      have s19 : Same H18 (upd H18 p19 (.tup (cutV ((thg 0 other bs).map V.int) (some 2) none))) := same_new n19
      generalize upd H18 p19 (.tup (cutV ((thg 0 other bs).map V.int) (some 2) none)) = H19 at s19 ⊢
      refine ⟨_, rfl, _, _, rfl, .inr ⟨_, SqT.of (s19 _ _ e18'), rfl⟩, _, rfl, _, _, rfl, .inr ⟨_, SqT.of (s19 _ _ hb18), rfl⟩, _, _, rfl, rfl, rfl, _, rfl, ?_⟩
      rw [List.length_map, List.length_map, thg_len, show (!decide (V.int ((bs.length + 2 : Nat) : Int) = V.int (2 + (bs.length : Int)))) = false by
        rw [show ((bs.length + 2 : Nat) : Int) = 2 + (bs.length : Int) by omega]
        simp]
      refine iteF ⟨_, rfl, .inl ⟨rfl, _, SqL.of ((s28.trans s19) _ _ hpr)⟩, _, rfl, pr, rs, .ref q2, rfl, rfl, (s28.trans s19) _ _ hpr, ?_, fin H19 s19⟩
      rw [hrs]
      exact Nat.lt_of_lt_of_le hi6 (by decide)
    · rw [show decide (V.int to = V.int 0) = false by simp [c0]]
      refine iteF ?_
      refine ⟨_, rfl, _, _, rfl, .inr ⟨_, SqT.of e18', rfl⟩, _, rfl, _, _, rfl, .inr ⟨_, SqT.of hb18, rfl⟩, _, _, rfl, rfl, rfl, _, rfl, ?_⟩
      rw [List.length_map, List.length_map, thg_len, show (!decide (V.int ((bs.length + 2 : Nat) : Int) = V.int (2 + (bs.length : Int)))) = false by
        rw [show ((bs.length + 2 : Nat) : Int) = 2 + (bs.length : Int) by omega]
        simp]
      refine iteF ⟨_, rfl, .inl ⟨rfl, _, SqL.of (s28 _ _ hpr)⟩, _, rfl, pr, rs, .ref q2, rfl, rfl, s28 _ _ hpr, ?_, fin H18 (.refl _)⟩
      rw [hrs]
      exact Nat.lt_of_lt_of_le hi6 (by decide)
  · rintro σ H ⟨nf, nn, pn, rs, y12, rfl, hpn, nf0, nf1, nn0, nn1, hpr, hrs, hrow, hlast, hb, ht, hq⟩
    rw [List.length_map, seqlen] at hrs hrow hlast
    have hs5 : sq[5]? = some form := by rw [← hsq, List.getElem?_append_right (by omega), hos]; rfl
    obtain ⟨e1, e2⟩ := hlast form (by decide) hs5
    rw [e1, e2] at hpn
    clear e1 e2 nf0 nf1 nn0 nn1 hlast
    have hsd : ∀ (u v : Nat) (f : Int), u < v → v < 5 → sq[u]? = some f → sq[v]? = some f → False := fun u v f huv hv e1 e2 => by
      rw [← hsq, List.getElem?_append_left (by rw [hos]; omega)] at e1 e2
      exact absurd ((List.getElem?_inj (by rw [hos]; omega) osd).mp (e1.trans e2.symm)) (by omega)
    refine ⟨_, rfl, by decide, by decide, for_range (lo := 0) (n := 5) (fun _ σ H' => H = H' ∧ ∃ y13 y14 : Option V, σ = [some (.ref a), some (.ref t), some (.int form), some (.int number), some (.int other), some (.ref pb), some (.ref pl), some (.ref po), y, some (.ref pt), some (.ref pr), some (.ref pn), y12, y13, y14])
      ⟨rfl, none, none, rfl⟩ ?_ ?_⟩
    · rintro v σ _ hv ⟨rfl, y13, y14, rfl⟩
      refine ⟨_, rfl, 0 + (v : Int), rfl, by show -(2 ^ 62) ≤ (0 : Int) + (v : Int); omega, by show (0 : Int) + (v : Int) < 2 ^ 62; omega, ?_⟩
      rw [show ((0 : Int) + (v : Int)).toNat = v by omega]
      refine for_range (lo := 0) (n := v) (fun _ σ H' => H = H' ∧ ∃ y14 : Option V, σ = [some (.ref a), some (.ref t), some (.int form), some (.int number), some (.int other), some (.ref pb), some (.ref pl), some (.ref po), y, some (.ref pt), some (.ref pr), some (.ref pn), y12, some (.int (0 + (v : Int))), y14])
        ⟨rfl, y14, rfl⟩ ?_ ?_
      · rintro u σ _ hu ⟨rfl, y14, rfl⟩
        obtain ⟨fv, efv⟩ : ∃ f, sq[v]? = some f := ⟨_, List.getElem?_eq_getElem (by omega)⟩
        obtain ⟨fu, efu⟩ : ∃ f, sq[u]? = some f := ⟨_, List.getElem?_eq_getElem (by omega)⟩
        obtain ⟨rv, rv1, rv2⟩ := hrow v fv (by omega) efv
        obtain ⟨ru, ru1, ru2⟩ := hrow u fu (by omega) efu
        refine ⟨_, rfl, _, rfl, pr, rs, 0 + (v : Int), .ref rv, rfl, rfl, SqL.of hpr, by rw [Int.zero_add]; exact atI_nat rv1, _, rfl, _, rfl, pr, rs, 0 + (u : Int), .ref ru, rfl, rfl, SqL.of hpr, by rw [Int.zero_add]; exact atI_nat ru1, ?_⟩
        refine ⟨rv, ru, _, _, rfl, rfl, SqT.of rv2, SqT.of ru2, _, rfl, ?_⟩
        rw [show decide (thg fv other bs = thg fu other bs) = false by
          refine decide_eq_false fun z => ?_
          have z1 := (thg_inj z).1
          rw [← z1] at efu
          exact hsd u v fv hu hv efu efv]
        exact iteF ⟨rfl, _, rfl⟩
      · rintro σ _ ⟨rfl, y14, rfl⟩
        exact ⟨rfl, _, _, rfl⟩
    · rintro σ _ ⟨rfl, y13, y14, rfl⟩
      refine ⟨_, rfl, _, rfl, _, rfl, body_ok f0 f1 o0 o1 hbs (by omega) hpn fun q1 H1 s1 e1 => ?_⟩
      refine thing_ok f0 f1 n0 n1 hbs (by omega) e1 fun q2 H2 s2 e2 => ?_
      have s12' := s1.trans s2
      have hpn2 := s12' _ _ hpn
      have ht2 := s12' _ _ ht
      refine ⟨_, rfl, q2, pt, _, _, rfl, rfl, SqT.of e2, SqT.of ht2, _, rfl, ?_⟩
      rw [show (!decide (thg form number bs = thg form number bs)) = false by simp]
      refine iteF ⟨_, rfl, _, rfl, rfl, _, rfl, ?_⟩
      by_cases c : other = number
      · subst c
        rw [decide_eq_true rfl]
        refine iteT ⟨_, rfl, _, rfl, pn, pt, _, _, rfl, rfl, SqT.of hpn2, SqT.of ht2, ?_⟩
        rw [decide_eq_true rfl]
        exact q _
      · rw [show decide (V.int other = V.int number) = false by simp [c]]
        refine iteF ?_
        refine ⟨_, rfl, _, rfl, pn, pt, _, _, rfl, rfl, SqT.of hpn2, SqT.of ht2, ?_⟩
        rw [show (!decide (thg form other bs = thg form number bs)) = true by
          rw [decide_eq_false fun z => c (thg_inj z).2]
          rfl]
        refine ⟨true, rfl, ?_⟩
        refine iteT ?_
        refine ⟨_, rfl, 2, rfl, pn, _, rfl, SqT.of hpn2, fun z => absurd z (thg_ncut _ _ _), fun _ p3 n3 => ?_⟩
        rw [thg_ecut]
        have s3 := same_new (o := .tup ((shiftI (20 * form) bs).map V.int)) n3
        have e3 : upd H2 p3 (.tup ((shiftI (20 * form) bs).map V.int)) p3 = some (.tup ((shiftI (20 * form) bs).map V.int)) := upd_same
        generalize upd H2 p3 (.tup ((shiftI (20 * form) bs).map V.int)) = H3' at s3 e3 ⊢
        refine ⟨_, rfl, 2, rfl, pt, _, rfl, SqT.of (s3 _ _ ht2), fun z => absurd z (thg_ncut _ _ _), fun _ p4 n4 => ?_⟩
        rw [thg_ecut]
        have s4 := same_new (o := .tup ((shiftI (20 * form) bs).map V.int)) n4
        have e4 : upd H3' p4 (.tup ((shiftI (20 * form) bs).map V.int)) p4 = some (.tup ((shiftI (20 * form) bs).map V.int)) := upd_same
        generalize upd H3' p4 (.tup ((shiftI (20 * form) bs).map V.int)) = H4' at s4 e4 ⊢
        refine ⟨p3, p4, _, _, rfl, rfl, SqT.of (s4 _ _ e3), SqT.of e4, ?_⟩
        refine ⟨_, rfl, ?_⟩
        rw [decide_eq_true rfl]
        refine iteT ?_
        have hpn4 := s4 _ _ (s3 _ _ hpn2)
        have ht4 := s4 _ _ (s3 _ _ ht2)
        refine ⟨_, rfl, pn, _, 0, .int form, rfl, rfl, SqT.of hpn4, atI_nat (j := 0) rfl, _, rfl, pt, _, 0, .int form, rfl, rfl, SqT.of ht4, atI_nat (j := 0) rfl, rfl, ?_⟩
        rw [decide_eq_true rfl]
        exact q _
end
abbrev s_init : Stmt := inClass (top 1) 0
theorem sc_init : FnScope ["self", "value"] ["self", "value"] (defScope s_init) := ⟨rfl, rfl, rfl, by decide +kernel, rfl, by decide +kernel, by decide +kernel⟩
section
variable {P : Program} {w : World} {K : PySem.W.Frag} {mg : Str → Option Value} {base : Heap}
theorem ok_init {f : Addr} {fd : FuncData} (F : Fun K "__init__" "MadeError.__init__" s_init f fd) : FnOk P w K mg base (L2.CX P w) 1 f fd ["self", "value"] (spInit K) := by
  refine F.okX sc_init (fun vs H Q E h => ?_) (fun cdv A outer s H vs Q E hr h => ⟨_, (pss_one (ps_ost (pv 0) (pv 1))), ?_⟩)
  · obtain ⟨a, C, v, rfl, _⟩ := h
    rfl
  · obtain ⟨a, C, v, rfl, oC, vC, ha, q⟩ := h
    exact ⟨_, rfl, _, rfl, a, C, rfl, oC, vC, .inl ⟨ha, fun dx nx ne => q dx nx ne⟩⟩
end
theorem all_mk {l : PySem.W.OpenLaw} {w : World} {K : PySem.W.Frag} {h : Heap} {mg : Str → Option Value} {fa : Addr} (X : K.In h) (G : h.Ns mainGlobals mg) (hfa : mg "law" = some (.ref fa))
    {C_MadeError : Addr} {nm_MadeError : _} {q_MadeError : _} {N_MadeError : _} {bs_MadeError : _} {bm_MadeError : _} {sn_MadeError : _} {sub_MadeError : _} {ab_MadeError : _} {col_MadeError : _} {dd_MadeError : _} {k0_MadeError : _} {k1_MadeError : _} {k2_MadeError : _} {k3_MadeError : _} {k5_MadeError : _}
    (a_MadeError : PySem.W.nsIn K mainGlobals "MadeError" = some (some (.ref C_MadeError)))
    (l_MadeError : K.lookup C_MadeError = some (excClassObj nm_MadeError q_MadeError C_MadeError N_MadeError bs_MadeError bm_MadeError true sn_MadeError sub_MadeError ab_MadeError col_MadeError dd_MadeError k0_MadeError k1_MadeError k2_MadeError k3_MadeError k5_MadeError "ValueError.__new__")) (r_MadeError : PySem.HandSPX.refsVE bm_MadeError = true)
    (sa_MadeError : PySem.W.findIn K (.ref C_MadeError) "__setattr__" = some (some (.builtin "object.__setattr__"))) (ex_MadeError : PySem.W.subIn K (.ref C_MadeError) (.type "BaseException") = some true)
    (ty_MadeError : PySem.W.typeIn K (.ref C_MadeError) = some (.type "type")) (k_MadeError : PySem.W.keepIn K (.ref C_MadeError) = true)
    {f_init : Addr} {oc_init kV_init dc_init pm_init cd_init ct_init : Value} {od_init an_init : Option Addr} {sl_init : Array (Option Value)}
    (l_init : K.lookup f_init = some ⟨oc_init, od_init, .func (PySem.W.fnOf "__init__" "MadeError.__init__" (defArgs s_init) (defBody s_init) (defScope s_init) .none kV_init dc_init pm_init an_init cd_init ct_init), sl_init⟩)
    (c_init : PySem.W.codeIn K cd_init "MadeError.__init__" = true) (k_init : PySem.W.keepIn K (.ref f_init) = true)
    (t_init : PySem.W.typeIn K (.ref f_init) = some (.type "function"))
    (i_MadeError : PySem.W.findIn K (.ref C_MadeError) "__init__" = some (some (.ref f_init))) (v_MadeError : PySem.W.findIn K (.ref C_MadeError) "value" = some none)
    {C_BadRow : Addr} {nm_BadRow : _} {q_BadRow : _} {N_BadRow : _} {bs_BadRow : _} {bm_BadRow : _} {sn_BadRow : _} {sub_BadRow : _} {ab_BadRow : _} {col_BadRow : _} {dd_BadRow : _} {k0_BadRow : _} {k1_BadRow : _} {k2_BadRow : _} {k3_BadRow : _} {k5_BadRow : _}
    (a_BadRow : PySem.W.nsIn K mainGlobals "BadRow" = some (some (.ref C_BadRow)))
    (l_BadRow : K.lookup C_BadRow = some (excClassObj nm_BadRow q_BadRow C_BadRow N_BadRow bs_BadRow bm_BadRow true sn_BadRow sub_BadRow ab_BadRow col_BadRow dd_BadRow k0_BadRow k1_BadRow k2_BadRow k3_BadRow k5_BadRow "ValueError.__new__")) (r_BadRow : PySem.HandSPX.refsVE bm_BadRow = true)
    (sa_BadRow : PySem.W.findIn K (.ref C_BadRow) "__setattr__" = some (some (.builtin "object.__setattr__"))) (ex_BadRow : PySem.W.subIn K (.ref C_BadRow) (.type "BaseException") = some true)
    (ty_BadRow : PySem.W.typeIn K (.ref C_BadRow) = some (.type "type")) (k_BadRow : PySem.W.keepIn K (.ref C_BadRow) = true)
    (i_BadRow : PySem.W.findIn K (.ref C_BadRow) "__init__" = some (some (.ref f_init))) (v_BadRow : PySem.W.findIn K (.ref C_BadRow) "value" = some none)
    {C_BadThing : Addr} {nm_BadThing : _} {q_BadThing : _} {N_BadThing : _} {bs_BadThing : _} {bm_BadThing : _} {sn_BadThing : _} {sub_BadThing : _} {ab_BadThing : _} {col_BadThing : _} {dd_BadThing : _} {k0_BadThing : _} {k1_BadThing : _} {k2_BadThing : _} {k3_BadThing : _} {k5_BadThing : _}
    (a_BadThing : PySem.W.nsIn K mainGlobals "BadThing" = some (some (.ref C_BadThing)))
    (l_BadThing : K.lookup C_BadThing = some (excClassObj nm_BadThing q_BadThing C_BadThing N_BadThing bs_BadThing bm_BadThing true sn_BadThing sub_BadThing ab_BadThing col_BadThing dd_BadThing k0_BadThing k1_BadThing k2_BadThing k3_BadThing k5_BadThing "ValueError.__new__")) (r_BadThing : PySem.HandSPX.refsVE bm_BadThing = true)
    (sa_BadThing : PySem.W.findIn K (.ref C_BadThing) "__setattr__" = some (some (.builtin "object.__setattr__"))) (ex_BadThing : PySem.W.subIn K (.ref C_BadThing) (.type "BaseException") = some true)
    (ty_BadThing : PySem.W.typeIn K (.ref C_BadThing) = some (.type "type")) (k_BadThing : PySem.W.keepIn K (.ref C_BadThing) = true)
    (i_BadThing : PySem.W.findIn K (.ref C_BadThing) "__init__" = some (some (.ref f_init))) (v_BadThing : PySem.W.findIn K (.ref C_BadThing) "value" = some none)
    {C_BadForm : Addr} {nm_BadForm : _} {q_BadForm : _} {N_BadForm : _} {bs_BadForm : _} {bm_BadForm : _} {sn_BadForm : _} {sub_BadForm : _} {ab_BadForm : _} {col_BadForm : _} {dd_BadForm : _} {k0_BadForm : _} {k1_BadForm : _} {k2_BadForm : _} {k3_BadForm : _} {k5_BadForm : _}
    (a_BadForm : PySem.W.nsIn K mainGlobals "BadForm" = some (some (.ref C_BadForm)))
    (l_BadForm : K.lookup C_BadForm = some (excClassObj nm_BadForm q_BadForm C_BadForm N_BadForm bs_BadForm bm_BadForm true sn_BadForm sub_BadForm ab_BadForm col_BadForm dd_BadForm k0_BadForm k1_BadForm k2_BadForm k3_BadForm k5_BadForm "ValueError.__new__")) (r_BadForm : PySem.HandSPX.refsVE bm_BadForm = true)
    (sa_BadForm : PySem.W.findIn K (.ref C_BadForm) "__setattr__" = some (some (.builtin "object.__setattr__"))) (ex_BadForm : PySem.W.subIn K (.ref C_BadForm) (.type "BaseException") = some true)
    (ty_BadForm : PySem.W.typeIn K (.ref C_BadForm) = some (.type "type")) (k_BadForm : PySem.W.keepIn K (.ref C_BadForm) = true)
    (i_BadForm : PySem.W.findIn K (.ref C_BadForm) "__init__" = some (some (.ref f_init))) (v_BadForm : PySem.W.findIn K (.ref C_BadForm) "value" = some none)
    {C_BadSign : Addr} {nm_BadSign : _} {q_BadSign : _} {N_BadSign : _} {bs_BadSign : _} {bm_BadSign : _} {sn_BadSign : _} {sub_BadSign : _} {ab_BadSign : _} {col_BadSign : _} {dd_BadSign : _} {k0_BadSign : _} {k1_BadSign : _} {k2_BadSign : _} {k3_BadSign : _} {k5_BadSign : _}
    (a_BadSign : PySem.W.nsIn K mainGlobals "BadSign" = some (some (.ref C_BadSign)))
    (l_BadSign : K.lookup C_BadSign = some (excClassObj nm_BadSign q_BadSign C_BadSign N_BadSign bs_BadSign bm_BadSign true sn_BadSign sub_BadSign ab_BadSign col_BadSign dd_BadSign k0_BadSign k1_BadSign k2_BadSign k3_BadSign k5_BadSign "ValueError.__new__")) (r_BadSign : PySem.HandSPX.refsVE bm_BadSign = true)
    (sa_BadSign : PySem.W.findIn K (.ref C_BadSign) "__setattr__" = some (some (.builtin "object.__setattr__"))) (ex_BadSign : PySem.W.subIn K (.ref C_BadSign) (.type "BaseException") = some true)
    (ty_BadSign : PySem.W.typeIn K (.ref C_BadSign) = some (.type "type")) (k_BadSign : PySem.W.keepIn K (.ref C_BadSign) = true)
    (i_BadSign : PySem.W.findIn K (.ref C_BadSign) "__init__" = some (some (.ref f_init))) (v_BadSign : PySem.W.findIn K (.ref C_BadSign) "value" = some none)
    {t_SIGNS : _} (n_SIGNS : PySem.W.nsIn K mainGlobals "SIGNS" = some (some (.int 100 t_SIGNS)))
    {t_FORMS : _} (n_FORMS : PySem.W.nsIn K mainGlobals "FORMS" = some (some (.int 5 t_FORMS)))
    {t_SHIFT : _} (n_SHIFT : PySem.W.nsIn K mainGlobals "SHIFT" = some (some (.int 20 t_SHIFT)))
    (z_len : PySem.W.nsIn K mainGlobals "len" = some none)
    (z_int : PySem.W.nsIn K mainGlobals "int" = some none)
    (z_bool : PySem.W.nsIn K mainGlobals "bool" = some none)
    (z_str : PySem.W.nsIn K mainGlobals "str" = some none)
    (z_list : PySem.W.nsIn K mainGlobals "list" = some none)
    (z_tuple : PySem.W.nsIn K mainGlobals "tuple" = some none)
    (z_dict : PySem.W.nsIn K mainGlobals "dict" = some none)
    (z_range : PySem.W.nsIn K mainGlobals "range" = some none)
    (z_enumerate : PySem.W.nsIn K mainGlobals "enumerate" = some none)
    (z_isinstance : PySem.W.nsIn K mainGlobals "isinstance" = some none)
    (z_repr : PySem.W.nsIn K mainGlobals "repr" = some none)
    (z_ValueError : PySem.W.nsIn K mainGlobals "ValueError" = some none)
    {f_is_whole : Addr} {oc_is_whole kV_is_whole dc_is_whole pm_is_whole cd_is_whole ct_is_whole : Value} {od_is_whole an_is_whole : Option Addr} {sl_is_whole : Array (Option Value)}
    (a_is_whole : PySem.W.nsIn K mainGlobals "is_whole" = some (some (.ref f_is_whole)))
    (l_is_whole : K.lookup f_is_whole = some ⟨oc_is_whole, od_is_whole, .func (PySem.W.fnOf "is_whole" "is_whole" (defArgs s_is_whole) (defBody s_is_whole) (defScope s_is_whole) .none kV_is_whole dc_is_whole pm_is_whole an_is_whole cd_is_whole ct_is_whole), sl_is_whole⟩)
    (c_is_whole : PySem.W.codeIn K cd_is_whole "is_whole" = true) (k_is_whole : PySem.W.keepIn K (.ref f_is_whole) = true)
    {f_is_sign : Addr} {oc_is_sign kV_is_sign dc_is_sign pm_is_sign cd_is_sign ct_is_sign : Value} {od_is_sign an_is_sign : Option Addr} {sl_is_sign : Array (Option Value)}
    (a_is_sign : PySem.W.nsIn K mainGlobals "is_sign" = some (some (.ref f_is_sign)))
    (l_is_sign : K.lookup f_is_sign = some ⟨oc_is_sign, od_is_sign, .func (PySem.W.fnOf "is_sign" "is_sign" (defArgs s_is_sign) (defBody s_is_sign) (defScope s_is_sign) .none kV_is_sign dc_is_sign pm_is_sign an_is_sign cd_is_sign ct_is_sign), sl_is_sign⟩)
    (c_is_sign : PySem.W.codeIn K cd_is_sign "is_sign" = true) (k_is_sign : PySem.W.keepIn K (.ref f_is_sign) = true)
    {f_is_form : Addr} {oc_is_form kV_is_form dc_is_form pm_is_form cd_is_form ct_is_form : Value} {od_is_form an_is_form : Option Addr} {sl_is_form : Array (Option Value)}
    (a_is_form : PySem.W.nsIn K mainGlobals "is_form" = some (some (.ref f_is_form)))
    (l_is_form : K.lookup f_is_form = some ⟨oc_is_form, od_is_form, .func (PySem.W.fnOf "is_form" "is_form" (defArgs s_is_form) (defBody s_is_form) (defScope s_is_form) .none kV_is_form dc_is_form pm_is_form an_is_form cd_is_form ct_is_form), sl_is_form⟩)
    (c_is_form : PySem.W.codeIn K cd_is_form "is_form" = true) (k_is_form : PySem.W.keepIn K (.ref f_is_form) = true)
    {f_is_row : Addr} {oc_is_row kV_is_row dc_is_row pm_is_row cd_is_row ct_is_row : Value} {od_is_row an_is_row : Option Addr} {sl_is_row : Array (Option Value)}
    (a_is_row : PySem.W.nsIn K mainGlobals "is_row" = some (some (.ref f_is_row)))
    (l_is_row : K.lookup f_is_row = some ⟨oc_is_row, od_is_row, .func (PySem.W.fnOf "is_row" "is_row" (defArgs s_is_row) (defBody s_is_row) (defScope s_is_row) .none kV_is_row dc_is_row pm_is_row an_is_row cd_is_row ct_is_row), sl_is_row⟩)
    (c_is_row : PySem.W.codeIn K cd_is_row "is_row" = true) (k_is_row : PySem.W.keepIn K (.ref f_is_row) = true)
    {f_shifted : Addr} {oc_shifted kV_shifted dc_shifted pm_shifted cd_shifted ct_shifted : Value} {od_shifted an_shifted : Option Addr} {sl_shifted : Array (Option Value)}
    (a_shifted : PySem.W.nsIn K mainGlobals "shifted" = some (some (.ref f_shifted)))
    (l_shifted : K.lookup f_shifted = some ⟨oc_shifted, od_shifted, .func (PySem.W.fnOf "shifted" "shifted" (defArgs s_shifted) (defBody s_shifted) (defScope s_shifted) .none kV_shifted dc_shifted pm_shifted an_shifted cd_shifted ct_shifted), sl_shifted⟩)
    (c_shifted : PySem.W.codeIn K cd_shifted "shifted" = true) (k_shifted : PySem.W.keepIn K (.ref f_shifted) = true)
    {f_is_thing : Addr} {oc_is_thing kV_is_thing dc_is_thing pm_is_thing cd_is_thing ct_is_thing : Value} {od_is_thing an_is_thing : Option Addr} {sl_is_thing : Array (Option Value)}
    (a_is_thing : PySem.W.nsIn K mainGlobals "is_thing" = some (some (.ref f_is_thing)))
    (l_is_thing : K.lookup f_is_thing = some ⟨oc_is_thing, od_is_thing, .func (PySem.W.fnOf "is_thing" "is_thing" (defArgs s_is_thing) (defBody s_is_thing) (defScope s_is_thing) .none kV_is_thing dc_is_thing pm_is_thing an_is_thing cd_is_thing ct_is_thing), sl_is_thing⟩)
    (c_is_thing : PySem.W.codeIn K cd_is_thing "is_thing" = true) (k_is_thing : PySem.W.keepIn K (.ref f_is_thing) = true)
    {f_form_of : Addr} {oc_form_of kV_form_of dc_form_of pm_form_of cd_form_of ct_form_of : Value} {od_form_of an_form_of : Option Addr} {sl_form_of : Array (Option Value)}
    (a_form_of : PySem.W.nsIn K mainGlobals "form_of" = some (some (.ref f_form_of)))
    (l_form_of : K.lookup f_form_of = some ⟨oc_form_of, od_form_of, .func (PySem.W.fnOf "form_of" "form_of" (defArgs s_form_of) (defBody s_form_of) (defScope s_form_of) .none kV_form_of dc_form_of pm_form_of an_form_of cd_form_of ct_form_of), sl_form_of⟩)
    (c_form_of : PySem.W.codeIn K cd_form_of "form_of" = true) (k_form_of : PySem.W.keepIn K (.ref f_form_of) = true)
    {f_number_of : Addr} {oc_number_of kV_number_of dc_number_of pm_number_of cd_number_of ct_number_of : Value} {od_number_of an_number_of : Option Addr} {sl_number_of : Array (Option Value)}
    (a_number_of : PySem.W.nsIn K mainGlobals "number_of" = some (some (.ref f_number_of)))
    (l_number_of : K.lookup f_number_of = some ⟨oc_number_of, od_number_of, .func (PySem.W.fnOf "number_of" "number_of" (defArgs s_number_of) (defBody s_number_of) (defScope s_number_of) .none kV_number_of dc_number_of pm_number_of an_number_of cd_number_of ct_number_of), sl_number_of⟩)
    (c_number_of : PySem.W.codeIn K cd_number_of "number_of" = true) (k_number_of : PySem.W.keepIn K (.ref f_number_of) = true)
    {f_body_of : Addr} {oc_body_of kV_body_of dc_body_of pm_body_of cd_body_of ct_body_of : Value} {od_body_of an_body_of : Option Addr} {sl_body_of : Array (Option Value)}
    (a_body_of : PySem.W.nsIn K mainGlobals "body_of" = some (some (.ref f_body_of)))
    (l_body_of : K.lookup f_body_of = some ⟨oc_body_of, od_body_of, .func (PySem.W.fnOf "body_of" "body_of" (defArgs s_body_of) (defBody s_body_of) (defScope s_body_of) .none kV_body_of dc_body_of pm_body_of an_body_of cd_body_of ct_body_of), sl_body_of⟩)
    (c_body_of : PySem.W.codeIn K cd_body_of "body_of" = true) (k_body_of : PySem.W.keepIn K (.ref f_body_of) = true)
    {f_thing_of : Addr} {oc_thing_of kV_thing_of dc_thing_of pm_thing_of cd_thing_of ct_thing_of : Value} {od_thing_of an_thing_of : Option Addr} {sl_thing_of : Array (Option Value)}
    (a_thing_of : PySem.W.nsIn K mainGlobals "thing_of" = some (some (.ref f_thing_of)))
    (l_thing_of : K.lookup f_thing_of = some ⟨oc_thing_of, od_thing_of, .func (PySem.W.fnOf "thing_of" "thing_of" (defArgs s_thing_of) (defBody s_thing_of) (defScope s_thing_of) .none kV_thing_of dc_thing_of pm_thing_of an_thing_of cd_thing_of ct_thing_of), sl_thing_of⟩)
    (c_thing_of : PySem.W.codeIn K cd_thing_of "thing_of" = true) (k_thing_of : PySem.W.keepIn K (.ref f_thing_of) = true)
    {f_law_tape : Addr} {oc_law_tape kV_law_tape dc_law_tape pm_law_tape cd_law_tape ct_law_tape : Value} {od_law_tape an_law_tape : Option Addr} {sl_law_tape : Array (Option Value)}
    (a_law_tape : PySem.W.nsIn K mainGlobals "_law_tape" = some (some (.ref f_law_tape)))
    (l_law_tape : K.lookup f_law_tape = some ⟨oc_law_tape, od_law_tape, .func (PySem.W.fnOf "_law_tape" "_law_tape" (defArgs s_law_tape) (defBody s_law_tape) (defScope s_law_tape) .none kV_law_tape dc_law_tape pm_law_tape an_law_tape cd_law_tape ct_law_tape), sl_law_tape⟩)
    (c_law_tape : PySem.W.codeIn K cd_law_tape "_law_tape" = true) (k_law_tape : PySem.W.keepIn K (.ref f_law_tape) = true)
    {f_law_pick : Addr} {oc_law_pick kV_law_pick dc_law_pick pm_law_pick cd_law_pick ct_law_pick : Value} {od_law_pick an_law_pick : Option Addr} {sl_law_pick : Array (Option Value)}
    (a_law_pick : PySem.W.nsIn K mainGlobals "_law_pick" = some (some (.ref f_law_pick)))
    (l_law_pick : K.lookup f_law_pick = some ⟨oc_law_pick, od_law_pick, .func (PySem.W.fnOf "_law_pick" "_law_pick" (defArgs s_law_pick) (defBody s_law_pick) (defScope s_law_pick) .none kV_law_pick dc_law_pick pm_law_pick an_law_pick cd_law_pick ct_law_pick), sl_law_pick⟩)
    (c_law_pick : PySem.W.codeIn K cd_law_pick "_law_pick" = true) (k_law_pick : PySem.W.keepIn K (.ref f_law_pick) = true)
    {f_law_sign : Addr} {oc_law_sign kV_law_sign dc_law_sign pm_law_sign cd_law_sign ct_law_sign : Value} {od_law_sign an_law_sign : Option Addr} {sl_law_sign : Array (Option Value)}
    (a_law_sign : PySem.W.nsIn K mainGlobals "_law_sign" = some (some (.ref f_law_sign)))
    (l_law_sign : K.lookup f_law_sign = some ⟨oc_law_sign, od_law_sign, .func (PySem.W.fnOf "_law_sign" "_law_sign" (defArgs s_law_sign) (defBody s_law_sign) (defScope s_law_sign) .none kV_law_sign dc_law_sign pm_law_sign an_law_sign cd_law_sign ct_law_sign), sl_law_sign⟩)
    (c_law_sign : PySem.W.codeIn K cd_law_sign "_law_sign" = true) (k_law_sign : PySem.W.keepIn K (.ref f_law_sign) = true)
    {f_law_signs : Addr} {oc_law_signs kV_law_signs dc_law_signs pm_law_signs cd_law_signs ct_law_signs : Value} {od_law_signs an_law_signs : Option Addr} {sl_law_signs : Array (Option Value)}
    (a_law_signs : PySem.W.nsIn K mainGlobals "_law_signs" = some (some (.ref f_law_signs)))
    (l_law_signs : K.lookup f_law_signs = some ⟨oc_law_signs, od_law_signs, .func (PySem.W.fnOf "_law_signs" "_law_signs" (defArgs s_law_signs) (defBody s_law_signs) (defScope s_law_signs) .none kV_law_signs dc_law_signs pm_law_signs an_law_signs cd_law_signs ct_law_signs), sl_law_signs⟩)
    (c_law_signs : PySem.W.codeIn K cd_law_signs "_law_signs" = true) (k_law_signs : PySem.W.keepIn K (.ref f_law_signs) = true)
    {f_law : Addr} {oc_law kV_law dc_law pm_law cd_law ct_law : Value} {od_law an_law : Option Addr} {sl_law : Array (Option Value)}
    (a_law : PySem.W.nsIn K mainGlobals "law" = some (some (.ref f_law)))
    (l_law : K.lookup f_law = some ⟨oc_law, od_law, .func (PySem.W.fnOf "law" "law" (defArgs s_law) (defBody s_law) (defScope s_law) .none kV_law dc_law pm_law an_law cd_law ct_law), sl_law⟩)
    (c_law : PySem.W.codeIn K cd_law "law" = true) (k_law : PySem.W.keepIn K (.ref f_law) = true) :
    ∃ fd : FuncData, (∀ (s : Shared) (v : Value), BindsTo s fd ⟨[v], []⟩ [("script", v)]) ∧ ∀ base : Heap, K.In base → base.Ns mainGlobals mg → FnOk l.prog w K mg base (L2.CX l.prog w) 7 fa fd ["script"] (spLaw K) := by
  have e := hfa.symm.trans (PySem.W.mg_of X G a_law)
  cases e
  have T : Tx K mg f_init C_MadeError C_BadRow C_BadThing C_BadForm C_BadSign := ⟨⟨PySem.W.mg_none_of X G z_len, PySem.W.mg_none_of X G z_int, PySem.W.mg_none_of X G z_bool, PySem.W.mg_none_of X G z_str, PySem.W.mg_none_of X G z_list, PySem.W.mg_none_of X G z_tuple, PySem.W.mg_none_of X G z_dict, PySem.W.mg_none_of X G z_range, PySem.W.mg_none_of X G z_enumerate, PySem.W.mg_none_of X G z_isinstance, PySem.W.mg_none_of X G z_repr, PySem.W.mg_none_of X G z_ValueError⟩, ⟨_, PySem.W.mg_of X G n_SIGNS⟩, ⟨_, PySem.W.mg_of X G n_FORMS⟩, ⟨_, PySem.W.mg_of X G n_SHIFT⟩, ⟨PySem.W.mg_of X G a_MadeError, ⟨⟨_, _, _, _, _, _, _, _, _, _, _, _, _, _, _, l_MadeError, r_MadeError⟩, sa_MadeError, ex_MadeError, ty_MadeError, k_MadeError⟩, i_MadeError, v_MadeError⟩, ⟨PySem.W.mg_of X G a_BadRow, ⟨⟨_, _, _, _, _, _, _, _, _, _, _, _, _, _, _, l_BadRow, r_BadRow⟩, sa_BadRow, ex_BadRow, ty_BadRow, k_BadRow⟩, i_BadRow, v_BadRow⟩, ⟨PySem.W.mg_of X G a_BadThing, ⟨⟨_, _, _, _, _, _, _, _, _, _, _, _, _, _, _, l_BadThing, r_BadThing⟩, sa_BadThing, ex_BadThing, ty_BadThing, k_BadThing⟩, i_BadThing, v_BadThing⟩, ⟨PySem.W.mg_of X G a_BadForm, ⟨⟨_, _, _, _, _, _, _, _, _, _, _, _, _, _, _, l_BadForm, r_BadForm⟩, sa_BadForm, ex_BadForm, ty_BadForm, k_BadForm⟩, i_BadForm, v_BadForm⟩, ⟨PySem.W.mg_of X G a_BadSign, ⟨⟨_, _, _, _, _, _, _, _, _, _, _, _, _, _, _, l_BadSign, r_BadSign⟩, sa_BadSign, ex_BadSign, ty_BadSign, k_BadSign⟩, i_BadSign, v_BadSign⟩⟩
  have F_init := fun_mk (x := "__init__") (qual := "MadeError.__init__") (st := s_init) l_init c_init k_init
  have b_init := F_init.binds (ps := ["self", "value"]) fun _ _ _ _ _ _ us hl => match us, hl with | [_, _], _ => rfl
  have D_is_whole : Dx K mg "is_whole" s_is_whole ["value"] := dx_mk X G a_is_whole l_is_whole c_is_whole k_is_whole fun _ _ _ _ _ _ us hl => match us, hl with | [_], _ => rfl
  have D_is_sign : Dx K mg "is_sign" s_is_sign ["value"] := dx_mk X G a_is_sign l_is_sign c_is_sign k_is_sign fun _ _ _ _ _ _ us hl => match us, hl with | [_], _ => rfl
  have D_is_form : Dx K mg "is_form" s_is_form ["value"] := dx_mk X G a_is_form l_is_form c_is_form k_is_form fun _ _ _ _ _ _ us hl => match us, hl with | [_], _ => rfl
  have D_is_row : Dx K mg "is_row" s_is_row ["value"] := dx_mk X G a_is_row l_is_row c_is_row k_is_row fun _ _ _ _ _ _ us hl => match us, hl with | [_], _ => rfl
  have D_shifted : Dx K mg "shifted" s_shifted ["row", "by"] := dx_mk X G a_shifted l_shifted c_shifted k_shifted fun _ _ _ _ _ _ us hl => match us, hl with | [_, _], _ => rfl
  have D_is_thing : Dx K mg "is_thing" s_is_thing ["row"] := dx_mk X G a_is_thing l_is_thing c_is_thing k_is_thing fun _ _ _ _ _ _ us hl => match us, hl with | [_], _ => rfl
  have D_form_of : Dx K mg "form_of" s_form_of ["thing"] := dx_mk X G a_form_of l_form_of c_form_of k_form_of fun _ _ _ _ _ _ us hl => match us, hl with | [_], _ => rfl
  have D_number_of : Dx K mg "number_of" s_number_of ["thing"] := dx_mk X G a_number_of l_number_of c_number_of k_number_of fun _ _ _ _ _ _ us hl => match us, hl with | [_], _ => rfl
  have D_body_of : Dx K mg "body_of" s_body_of ["thing"] := dx_mk X G a_body_of l_body_of c_body_of k_body_of fun _ _ _ _ _ _ us hl => match us, hl with | [_], _ => rfl
  have D_thing_of : Dx K mg "thing_of" s_thing_of ["form", "number", "body"] := dx_mk X G a_thing_of l_thing_of c_thing_of k_thing_of fun _ _ _ _ _ _ us hl => match us, hl with | [_, _, _], _ => rfl
  have D_law_tape : Dx K mg "_law_tape" s_law_tape ["script"] := dx_mk X G a_law_tape l_law_tape c_law_tape k_law_tape fun _ _ _ _ _ _ us hl => match us, hl with | [_], _ => rfl
  have D_law_pick : Dx K mg "_law_pick" s_law_pick ["tape", "size"] := dx_mk X G a_law_pick l_law_pick c_law_pick k_law_pick fun _ _ _ _ _ _ us hl => match us, hl with | [_, _], _ => rfl
  have D_law_sign : Dx K mg "_law_sign" s_law_sign ["tape"] := dx_mk X G a_law_sign l_law_sign c_law_sign k_law_sign fun _ _ _ _ _ _ us hl => match us, hl with | [_], _ => rfl
  have D_law_signs : Dx K mg "_law_signs" s_law_signs ["tape", "many"] := dx_mk X G a_law_signs l_law_signs c_law_signs k_law_signs fun _ _ _ _ _ _ us hl => match us, hl with | [_, _], _ => rfl
  have F_law := fun_mk (x := "law") (qual := "law") (st := s_law) l_law c_law k_law
  refine ⟨PySem.W.fnOf "law" "law" (defArgs s_law) (defBody s_law) (defScope s_law) .none kV_law dc_law pm_law an_law cd_law ct_law, fun s v => .of_eq rfl, fun base KB GB => ?_⟩
  have C_init : InitOk l.prog w K mg base 1 f_init := ⟨t_init, _, b_init, ok_init F_init⟩
  have C_is_whole : Pr l.prog w K mg base 1 "is_whole" ["value"] (spD K dWhole) := ok_is_whole T D_is_whole 
  have C_is_sign : Pr l.prog w K mg base 2 "is_sign" ["value"] (spD K dSign) := ok_is_sign T D_is_sign C_is_whole
  have C_is_form : Pr l.prog w K mg base 2 "is_form" ["value"] (spD K dForm) := ok_is_form T D_is_form C_is_whole
  have C_is_row : Pr l.prog w K mg base 3 "is_row" ["value"] (spD K dRow) := ok_is_row T D_is_row 
  have C_shifted : Pr l.prog w K mg base 1 "shifted" ["row", "by"] (spShifted K) := ok_shifted T D_shifted 
  have C_is_thing : Pr l.prog w K mg base 4 "is_thing" ["row"] (spD K dThing) := ok_is_thing T D_is_thing C_is_row C_is_form
  have C_form_of : Pr l.prog w K mg base 5 "form_of" ["thing"] (spThing1 K C_BadThing dFst) := ok_form_of T D_form_of C_is_thing C_init
  have C_number_of : Pr l.prog w K mg base 5 "number_of" ["thing"] (spThing1 K C_BadThing dSnd) := ok_number_of T D_number_of C_is_thing C_init
  have C_body_of : Pr l.prog w K mg base 6 "body_of" ["thing"] (spBodyOf K C_BadThing) := ok_body_of T D_body_of C_form_of C_shifted
  have C_thing_of : Pr l.prog w K mg base 4 "thing_of" ["form", "number", "body"] (spThingOf K C_BadForm C_BadSign C_BadRow) := ok_thing_of T D_thing_of C_is_form C_is_sign C_is_row C_shifted C_init
  have C_law_tape : Pr l.prog w K mg base 1 "_law_tape" ["script"] (spTape K) := ok_law_tape T D_law_tape 
  have C_law_pick : Pr l.prog w K mg base 1 "_law_pick" ["tape", "size"] spPick := ok_law_pick T D_law_pick 
  have C_law_sign : Pr l.prog w K mg base 2 "_law_sign" ["tape"] spSign := ok_law_sign T D_law_sign C_law_pick
  have C_law_signs : Pr l.prog w K mg base 3 "_law_signs" ["tape", "many"] spSigns := ok_law_signs T D_law_signs C_law_sign
  exact ok_law T F_law C_law_tape C_law_pick C_law_sign C_law_signs C_is_thing C_form_of C_number_of C_body_of C_thing_of
theorem walk {l : PySem.W.OpenLaw} {q : Program} {loose : List Str} {XP : (Str → Option Value) → Heap → Prop} {YP : World → Heap → Prop} {d : DefRec} {K : Params → PySem.W.Frag} (hn : l.most = some 63) (hdf : d.params.defaults = [])
    (hY : ∀ (w : World) (h : Heap), YP w h → (K w.params).In h)
    (F : ∀ (w : World) (mg : Str → Option Value) (fa : Addr) (h : Heap), (K w.params).In h → h.Ns mainGlobals mg → mg d.name = some (.ref fa) →
      ∃ fd : FuncData, (∀ (s : Shared) (u : Value), BindsTo s fd ⟨[u], []⟩ [("script", u)]) ∧ ∀ base : Heap, (K w.params).In base → base.Ns mainGlobals mg → FnOk l.prog w (K w.params) mg base (L2.CX l.prog w) 7 fa fd ["script"] (spLaw (K w.params))) :
    PySem.W.WalkO q loose XP YP l.row.toRowW d [] (fun f vs => PySem.call f vs) :=
  L2.walk_of (n := 63) (k := 7) (x := "script") (CX := fun w => L2.CX l.prog w) (sp := fun w => spLaw (K w.params)) hn (by decide) hdf ⟨rfl, by decide, by decide⟩ hY F (fun _ _ a ns hl _ hS => ⟨a, ns, rfl, hS, hl, fun _ => rfl⟩) fun _ _ _ _ _ z => by
    obtain ⟨_, _, _, _, _, _, _, _, _, _, _, _, z⟩ := z
    exact z
end My

open PySem PySem.W PyProof.Rows in
set_option maxRecDepth 100000 in
set_option maxHeartbeats 0 in
theorem PySem.Challenge.cw_trulymade_k02_one_body_in_five_forms_holds : PySem.Challenge.rw_trulymade_k02_one_body_in_five_forms.Holds := by
  w_on; o_law; k_head; (case hw => w_witness2)
  k_fill
  refine My.walk (l := PySem.Challenge.rw_trulymade_k02_one_body_in_five_forms) rfl rfl (fun w h Y => PySem.W.kIn_of Y) ?F
  case F =>
    intro w mg fa h KX G hmg
    refine' My.all_mk KX G hmg ?a_MadeError ?l_MadeError ?r_MadeError ?sa_MadeError ?ex_MadeError ?ty_MadeError ?k_MadeError ?l_init ?c_init ?k_init ?t_init ?i_MadeError ?v_MadeError ?a_BadRow ?l_BadRow ?r_BadRow ?sa_BadRow ?ex_BadRow ?ty_BadRow ?k_BadRow ?i_BadRow ?v_BadRow ?a_BadThing ?l_BadThing ?r_BadThing ?sa_BadThing ?ex_BadThing ?ty_BadThing ?k_BadThing ?i_BadThing ?v_BadThing ?a_BadForm ?l_BadForm ?r_BadForm ?sa_BadForm ?ex_BadForm ?ty_BadForm ?k_BadForm ?i_BadForm ?v_BadForm ?a_BadSign ?l_BadSign ?r_BadSign ?sa_BadSign ?ex_BadSign ?ty_BadSign ?k_BadSign ?i_BadSign ?v_BadSign ?n_SIGNS ?n_FORMS ?n_SHIFT ?z_len ?z_int ?z_bool ?z_str ?z_list ?z_tuple ?z_dict ?z_range ?z_enumerate ?z_isinstance ?z_repr ?z_ValueError ?a_is_whole ?l_is_whole ?c_is_whole ?k_is_whole ?a_is_sign ?l_is_sign ?c_is_sign ?k_is_sign ?a_is_form ?l_is_form ?c_is_form ?k_is_form ?a_is_row ?l_is_row ?c_is_row ?k_is_row ?a_shifted ?l_shifted ?c_shifted ?k_shifted ?a_is_thing ?l_is_thing ?c_is_thing ?k_is_thing ?a_form_of ?l_form_of ?c_form_of ?k_form_of ?a_number_of ?l_number_of ?c_number_of ?k_number_of ?a_body_of ?l_body_of ?c_body_of ?k_body_of ?a_thing_of ?l_thing_of ?c_thing_of ?k_thing_of ?a_law_tape ?l_law_tape ?c_law_tape ?k_law_tape ?a_law_pick ?l_law_pick ?c_law_pick ?k_law_pick ?a_law_sign ?l_law_sign ?c_law_sign ?k_law_sign ?a_law_signs ?l_law_signs ?c_law_signs ?k_law_signs ?a_law ?l_law ?c_law ?k_law
    (case a_MadeError => k_is)
    (case i_MadeError => k_is)
    (case l_MadeError => k_is)
    (case r_MadeError => decide +kernel)
    (case sa_MadeError => k_is)
    (case ex_MadeError => k_is)
    (case ty_MadeError => k_is)
    (case k_MadeError => k_is)
    (case l_init => k_is)
    (case c_init => k_is)
    (case k_init => k_is)
    (case t_init => k_is)
    (case v_MadeError => k_is)
    (case a_BadRow => k_is)
    (case l_BadRow => k_is)
    (case r_BadRow => decide +kernel)
    (case sa_BadRow => k_is)
    (case ex_BadRow => k_is)
    (case ty_BadRow => k_is)
    (case k_BadRow => k_is)
    (case i_BadRow => k_is)
    (case v_BadRow => k_is)
    (case a_BadThing => k_is)
    (case l_BadThing => k_is)
    (case r_BadThing => decide +kernel)
    (case sa_BadThing => k_is)
    (case ex_BadThing => k_is)
    (case ty_BadThing => k_is)
    (case k_BadThing => k_is)
    (case i_BadThing => k_is)
    (case v_BadThing => k_is)
    (case a_BadForm => k_is)
    (case l_BadForm => k_is)
    (case r_BadForm => decide +kernel)
    (case sa_BadForm => k_is)
    (case ex_BadForm => k_is)
    (case ty_BadForm => k_is)
    (case k_BadForm => k_is)
    (case i_BadForm => k_is)
    (case v_BadForm => k_is)
    (case a_BadSign => k_is)
    (case l_BadSign => k_is)
    (case r_BadSign => decide +kernel)
    (case sa_BadSign => k_is)
    (case ex_BadSign => k_is)
    (case ty_BadSign => k_is)
    (case k_BadSign => k_is)
    (case i_BadSign => k_is)
    (case v_BadSign => k_is)
    (case n_SIGNS => k_is)
    (case n_FORMS => k_is)
    (case n_SHIFT => k_is)
    (case z_len => k_is)
    (case z_int => k_is)
    (case z_bool => k_is)
    (case z_str => k_is)
    (case z_list => k_is)
    (case z_tuple => k_is)
    (case z_dict => k_is)
    (case z_range => k_is)
    (case z_enumerate => k_is)
    (case z_isinstance => k_is)
    (case z_repr => k_is)
    (case z_ValueError => k_is)
    (case a_is_whole => k_is)
    (case l_is_whole => k_is)
    (case c_is_whole => k_is)
    (case k_is_whole => k_is)
    (case a_is_sign => k_is)
    (case l_is_sign => k_is)
    (case c_is_sign => k_is)
    (case k_is_sign => k_is)
    (case a_is_form => k_is)
    (case l_is_form => k_is)
    (case c_is_form => k_is)
    (case k_is_form => k_is)
    (case a_is_row => k_is)
    (case l_is_row => k_is)
    (case c_is_row => k_is)
    (case k_is_row => k_is)
    (case a_shifted => k_is)
    (case l_shifted => k_is)
    (case c_shifted => k_is)
    (case k_shifted => k_is)
    (case a_is_thing => k_is)
    (case l_is_thing => k_is)
    (case c_is_thing => k_is)
    (case k_is_thing => k_is)
    (case a_form_of => k_is)
    (case l_form_of => k_is)
    (case c_form_of => k_is)
    (case k_form_of => k_is)
    (case a_number_of => k_is)
    (case l_number_of => k_is)
    (case c_number_of => k_is)
    (case k_number_of => k_is)
    (case a_body_of => k_is)
    (case l_body_of => k_is)
    (case c_body_of => k_is)
    (case k_body_of => k_is)
    (case a_thing_of => k_is)
    (case l_thing_of => k_is)
    (case c_thing_of => k_is)
    (case k_thing_of => k_is)
    (case a_law_tape => k_is)
    (case l_law_tape => k_is)
    (case c_law_tape => k_is)
    (case k_law_tape => k_is)
    (case a_law_pick => k_is)
    (case l_law_pick => k_is)
    (case c_law_pick => k_is)
    (case k_law_pick => k_is)
    (case a_law_sign => k_is)
    (case l_law_sign => k_is)
    (case c_law_sign => k_is)
    (case k_law_sign => k_is)
    (case a_law_signs => k_is)
    (case l_law_signs => k_is)
    (case c_law_signs => k_is)
    (case k_law_signs => k_is)
    (case a_law => k_is)
    (case l_law => k_is)
    (case c_law => k_is)
    (case k_law => k_is)
