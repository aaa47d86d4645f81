import PyProof.Rows.All
import Wide.All
import OpenK.AllK
import Wide.FinOn
import HandS.ForExc
import HandS.Comp
import HandS.Evl
import HandS.Wide
import HandS.IsInst
import HandS.ExcInit
import HandS.ExcField
import HandS.TupAny
import HandS.EndBits
import PyProof.ReprRoads
import KE.KExcIs
import KE.RegKIsAll
import HandS.ExcIs
import PyProof.NeKinds
import PyProof.StrLawsRepr
import HandS.Dict
import PySem.Challenge.RW_trulymade_k00_forms_and_scraps
set_option Elab.async false
set_option linter.all false
set_option maxRecDepth 100000
set_option maxHeartbeats 2000000
namespace Fd
open PySem PySem.Spec PyProof.Rows L2

/-! ### heaps -/
theorem same_new {H : Hp} {p : Addr} {o : HO} (n : H p = none) : Same H (upd H p o) := fun b x e => by
  rw [upd_ne (ne_of_none e n)]
  exact e
theorem same_mut {H H' : Hp} {p : Addr} {o : HO} (s : Same H H') (n : H p = none) : Same H (upd H' p o) := fun b x e => by
  rw [upd_ne (ne_of_none e n)]
  exact s b x e
theorem same_t {K : PySem.W.Frag} {H H' : Hp} {a : Addr} {xs : List V} (s : Same H H') (h : SqT K H a xs) : SqT K H' a xs := Evl.ex_t s h
theorem same_l {K : PySem.W.Frag} {H H' : Hp} {a : Addr} {xs : List V} (s : Same H H') (h : SqL K H a xs) : SqL K H' a xs := Evl.ex_l s h

/-! ### a def that stands behind the top, with its promise -/
section
variable (P : Program) (w : World) (K : PySem.W.Frag) (mg : Str → Option Value) (base : Heap)
/-- the def called x keeps the promise sp by at most level k -/
structure Pr (k : Nat) (x : Str) (ps : List Str) (sp : Sp) : Prop where
  ex : ∃ (f : Addr) (fd : FuncData), mg x = some (.ref f) ∧ PySem.W.keepIn K (.ref f) = true ∧ Binds K fd ps [] ∧ FnOk P w K mg base (L2.CX P w) k f fd ps sp
/-- the def called x as the top left it -/
structure Dx (x : Str) (st : Stmt) (ps : List Str) : Prop where
  ex : ∃ (f : Addr) (fd : FuncData), mg x = some (.ref f) ∧ Binds K fd ps [] ∧ Fun K x x st f fd
end
section
variable {P : Program} {w : World} {K : PySem.W.Frag} {mg : Str → Option Value} {base : Heap}
theorem Dx.pr {x : Str} {st : Stmt} {N ps : List Str} {k : Nat} {sp : Sp} (D : Dx K mg x st ps) (S : FnScope N ps (defScope st)) (len : ∀ vs H Q E, sp vs H Q E → vs.length = ps.length)
    (body : ∀ (f : Addr) (cdv : Value) (A : Around) (outer : List Env) (s : Shared) (H : Hp) (vs : List V) (Q : VK) (E : XK), Room k (A.deeper (envOfC x (defScope st) s.heap.objs.size f cdv)) → sp vs H Q E →
      ∃ t, PSs (cxOf (L2.CX P w) P w K mg base N x (defScope st) f cdv A outer s H E) (defBody st) t ∧ t { nx := fun _ H' => Q .non H', rt := Q } (start N vs) H) : Pr P w K mg base (k + 1) x ps sp := by
  obtain ⟨f, fd, g, b, F⟩ := D.ex
  exact ⟨f, fd, g, F.kp, b, F.okX S len fun cdv A outer s H vs Q E hr h => body f cdv A outer s H vs Q E hr h⟩
theorem dx_mk {x : Str} {st : Stmt} {ps : List Str} {f : Addr} {oc : Value} {od an : Option Addr} {osl : Array (Option Value)} {kV doc pm cdv ct : Value} {h : Heap} (X : K.In h) (G : h.Ns mainGlobals mg) (a : PySem.W.nsIn K mainGlobals x = some (some (.ref f)))
    (l : K.lookup f = some ⟨oc, od, .func (PySem.W.fnOf x x (defArgs st) (defBody st) (defScope st) .none kV doc pm an cdv ct), osl⟩) (c : PySem.W.codeIn K cdv x = true) (k : PySem.W.keepIn K (.ref f) = true)
    (hb : ∀ (kV doc pm : Value) (an : Option Addr) (cdv ct : Value) (us : List Value), us.length = ps.length → bindArgs (PySem.W.fnOf x x (defArgs st) (defBody st) (defScope st) .none kV doc pm an cdv ct) ⟨us, []⟩ = pure (ps.zip us)) : Dx K mg x st ps :=
  ⟨f, _, PySem.W.mg_of X G a, (fun_mk (st := st) l c k).binds hb, fun_mk (st := st) l c k⟩
end
section
variable {X : Cx} {k : Nat} {x : Str} {ps : List Str} {sp : Sp} {E : XK} {e : Expr} {es : List Expr} {t : TA} {p pos : Pos}
/-- a call of such a def; what it lets out is wished for as E says -/
theorem pe_callP (C : Pr X.prog X.w X.K X.mg X.base k x ps sp) (hr : Room k X.A) (hg : Gl X x) (hx : Passes (L2.CX X.prog X.w) X E) (ha : PA X (e :: es) t) (hdb : (x == ("__debug__" : Str)) = false := by decide)
    (he : starEach (e :: es) X.env = (false, eval e X.env) :: starEach es X.env := by rfl) (hpl : (backTo pos (starEach es X.env)).any (·.1) = false := by rfl) : PE X (.Call (.Name x p) (e :: es) [] pos) (tCall sp [] E t) := by
  obtain ⟨f, fd, g, kp, b, F⟩ := C.ex
  exact pe_call F hr hg g kp b .nil hx ha hdb he hpl
end

/-! ### what is walked: a list or a tuple -/
/-- a sequence, of which kind is left open -/
def SqS (K : PySem.W.Frag) (H : Hp) (a : Addr) (xs : List V) : Prop := SqL K H a xs ∨ SqT K H a xs
def iSeq (K : PySem.W.Frag) (tl : TE) : TI := fun σ H R => tl σ H fun x H1 => ∃ a, x = .ref a ∧ (((∃ xs, SqL K H1 a xs) ∧ R (Itl K a) H1) ∨ ((∃ xs, SqT K H1 a xs) ∧ R (Itt K a) H1))
theorem pi_seq {X : Cx} {tg l : Expr} {tl : TE} (hl : PE X l tl) : PI X tg l (iSeq X.K tl) := by
  constructor
  intro pins s σ H R I h
  refine thn (hl.run pins s σ H _ I h) ?_
  rintro v s1 ⟨x, H1, I1, r1, a, rfl, q⟩
  cases r1
  have fresh : FpOk X pins H1 s1.heap.objs.size := I1.fpOk (Nat.le_refl _) (I1.hok.fresh (Nat.le_refl _))
  have all : ∀ b ∈ [s1.heap.objs.size], FpOk X pins H1 b := fun b hb => by
    rw [List.mem_singleton.mp hb]
    exact fresh
  rcases q with ⟨⟨xs, hq⟩, q⟩ | ⟨⟨xs, hq⟩, q⟩
  · obtain ⟨its, _, pl, _⟩ := I1.list hq
    exact wpAny_pyIter_list pl.isList ⟨_, [_], _, Itl X.K a, H1, rfl, I1.kept (t' := s1.toks) fun _ _ e => Heap.get?_push_of_some _ e, turn_list a _, ⟨_, Heap.get?_push_size _ rfl, rfl, rfl⟩, all, q⟩
  · obtain ⟨its, _, pt, _⟩ := I1.tuple hq
    exact wpAny_pyIter_tuple (show s1.heap.IsTuple a its.toArray from pt) ⟨_, [_], _, Itt X.K a, H1, rfl, I1.kept (t' := s1.toks) fun _ _ e => Heap.get?_push_of_some _ e, turn_tuple a _, ⟨_, Heap.get?_push_size _ rfl, rfl, rfl⟩, all, q⟩

/-! ### errors that keep a value -/
theorem PMk.imp {X : Cx} {e : Expr} {t u : L2.St → Hp → XK → Prop} (h : PMk X e t) (i : ∀ σ H Q, u σ H Q → t σ H Q) : PMk X e u := fun pins s σ H Q I q => h pins s σ H Q I (i σ H Q q)
/-- what __init__(self, value) of the errors promises -/
def spInit (K : PySem.W.Frag) : Sp := fun vs H Q _ => ∃ (a C : Addr) (v : V), vs = [.ref a, v] ∧ OexC K C ∧ PySem.W.findIn K (.ref C) "value" = some none ∧ H a = some (exo a C none) ∧
  ∀ dx, H dx = none → dx ≠ a → Q .non (upd (upd H dx (exd dx [("value", v)])) a (exo a C (some dx)))
/-- __init__ at fI -/
structure InitOk (P : Program) (w : World) (K : PySem.W.Frag) (mg : Str → Option Value) (base : Heap) (k : Nat) (fI : Addr) : Prop where
  ty : PySem.W.typeIn K (.ref fI) = some (.type "function")
  ok : ∃ fd, Binds K fd ["self", "value"] [] ∧ FnOk P w K mg base (L2.CX P w) k fI fd ["self", "value"] (spInit K)
/-- the class x stands at C and has fI as its __init__ -/
structure Ex (K : PySem.W.Frag) (mg : Str → Option Value) (x : Str) (C fI : Addr) : Prop where
  g : mg x = some (.ref C)
  o : OexC K C
  i : PySem.W.findIn K (.ref C) "__init__" = some (some (.ref fI))
  v : PySem.W.findIn K (.ref C) "value" = some none
/-- x(e) -/
def tMade (C : Addr) (te : TE) : L2.St → Hp → XK → Prop := fun σ H Q => te σ H fun v H1 => ∀ d, H1 d = none → Q (.ref C) (some d) (upd H1 d (.xd [(("value" : Str), v)]))
theorem upd_back {H : Hp} {a d : Addr} {o1 o2 o3 o4 : HO} (na : H a = none) (ne : d ≠ a) : upd (del (upd (upd (upd H a o1) d o2) a o3) a) d o4 = upd H d o4 := by
  funext b
  by_cases hd : b = d
  · rw [hd, upd_same, upd_same]
  · rw [upd_ne hd, upd_ne hd]
    by_cases ha : b = a
    · rw [ha, del_same, na]
    · rw [del_ne ha, upd_ne ha, upd_ne hd, upd_ne ha]
/-- a reading, weakened behind -/
def mon (te : TE) : TE := fun σ H Q => ∃ Q' : VK, te σ H Q' ∧ ∀ v H', Q' v H' → Q v H'
theorem pe_mon {X : Cx} {e : Expr} {te : TE} (h : PE X e te) : PE X e (mon te) := by
  constructor
  rintro pins s σ H Q I ⟨Q', h1, h2⟩
  refine thn (h.run pins s σ H Q' I h1) ?_
  rintro v s1 ⟨x, H1, I1, r1, q1⟩
  exact ⟨x, H1, I1, r1, h2 _ _ q1⟩
theorem pmk_made {X : Cx} {k : Nat} {x : Str} {C fI : Addr} {e : Expr} {te : TE} {p pos : Pos} (T : Ex X.K X.mg x C fI) (F : InitOk X.prog X.w X.K X.mg X.base k fI) (hr : Room (k + 1) X.A) (hx : Passes (L2.CX X.prog X.w) X (fun _ _ _ => False)) (hg : Gl X x) (he : PE X e te)
    (hdb : (x == ("__debug__" : Str)) = false := by decide) (hst : starEach (e :: []) X.env = (false, eval e X.env) :: starEach [] X.env := by rfl) (hpl : (backTo pos (starEach [] X.env)).any (·.1) = false := by rfl) :
    PMk X (.Call (.Name x p) [e] [] pos) (tMade C te) := by
  obtain ⟨fd, b, F1⟩ := F.ok
  refine PMk.imp (pmk_oex (ds := []) (dvs := []) T.o T.i F.ty F1 hr b .nil hx hg T.g (pa_cons (pe_mon he) pa_nil hst) hdb hst hpl) fun σ H Q h => ?_
  refine ⟨_, h, fun v H1 q => ⟨(by show 1 ≤ 1000; decide), fun a na => ⟨a, C, v, rfl, T.o, T.v, upd_same, fun dx nx ne => ?_⟩⟩⟩
  have n1 : H1 dx = none := by
    rw [upd_ne ne] at nx
    exact nx
  refine ⟨rfl, dx, [("value", v)], upd_same, ?_, n1, ?_⟩
  · rw [upd_ne ne, upd_same]
  · rw [upd_back na ne]
    exact q dx n1

/-! ### constants of the module -/
theorem pe_cst {X : Cx} {x : Str} {i : Int} {pos : Pos} (h : ∃ t, X.mg x = some (.int i t)) (hg : Gl X x := by rfl) (hd : (x == ("__debug__" : Str)) = false := by decide) : PE X (.Name x pos) (tC (.int i)) := by
  obtain ⟨t, e⟩ := h
  exact pe_glob hg e ⟨t, rfl⟩ hd
/-- the built-in names are still the built-in things -/
structure Nms (mg : Str → Option Value) : Prop where
  n_len : mg "len" = none
  n_int : mg "int" = none
  n_bool : mg "bool" = none
  n_str : mg "str" = none
  n_list : mg "list" = none
  n_tuple : mg "tuple" = none
  n_dict : mg "dict" = none
  n_range : mg "range" = none
  n_enumerate : mg "enumerate" = none
  n_isinstance : mg "isinstance" = none
  n_repr : mg "repr" = none
  n_ValueError : mg "ValueError" = none

/-- a built-in type as a value -/
theorem pe_ty {X : Cx} {x : Str} {pos : Pos} (n : String) (hm : X.mg x = none) (hg : Gl X x := by rfl) (hv : bootBuiltins x = some (.type n) := by decide +kernel) (hn : x ≠ "__name__" := by decide) (hd : (x == ("__debug__" : Str)) = false := by decide) : PE X (.Name x pos) (tC (.ty n)) :=
  pe_bltn hg hm hv rfl hn hd

/-! ### the tape: at t the five cells, at c the script's own copy -/
def TapeOk (H : Hp) (c : Addr) (T : List V) : Prop := ∃ (xs : List Int) (pos rest mix cnt : Int), T = [.ref c, .int pos, .int rest, .int mix, .int cnt] ∧ H c = some (.lst (xs.map V.int)) ∧ 0 ≤ pos ∧ 0 ≤ mix ∧ mix < 2147483648
def TapeAt (H : Hp) (t c : Addr) : Prop := ∃ T, H t = some (.lst T) ∧ TapeOk H c T
/-- all but t stands, t is a tape still -/
structure Go (t c : Addr) (H H' : Hp) : Prop where
  keep : ∀ b o, b ≠ t → H b = some o → H' b = some o
  tape : TapeAt H' t c
theorem tape_ne {H : Hp} {t c : Addr} {xs : List Int} {r : List V} (ht : H t = some (.lst (.ref c :: r))) (hc : H c = some (.lst (xs.map V.int))) : c ≠ t := fun e => by
  rw [e, ht] at hc
  cases xs with
  | nil => cases hc
  | cons x r => cases hc
theorem Go.trans {t c : Addr} {H H1 H2 : Hp} (a : Go t c H H1) (b : Go t c H1 H2) : Go t c H H2 := ⟨fun x o n e => b.keep x o n (a.keep x o n e), b.tape⟩
theorem Go.refl {t c : Addr} {H : Hp} (h : TapeAt H t c) : Go t c H H := ⟨fun _ _ _ e => e, h⟩
theorem TapeAt.there {H : Hp} {t c : Addr} (h : TapeAt H t c) {p : Addr} (n : H p = none) : p ≠ t ∧ p ≠ c := by
  obtain ⟨T, e1, xs, _, _, _, _, _, e2, _⟩ := h
  exact ⟨fun e => (by rw [e, e1] at n; cases n), fun e => (by rw [e, e2] at n; cases n)⟩
theorem TapeAt.keeps {H H' : Hp} {t c : Addr} (h : TapeAt H t c) (k : Same H H') : TapeAt H' t c := by
  obtain ⟨T, e1, xs, p, r, m, n, rfl, e2, h1, h2, h3⟩ := h
  exact ⟨_, k _ _ e1, xs, p, r, m, n, rfl, k _ _ e2, h1, h2, h3⟩
theorem Go.new {t c p : Addr} {H H' : Hp} {o : HO} (g : Go t c H H') (n : H' p = none) : Go t c H (upd H' p o) :=
  ⟨fun b u nb e => by rw [upd_ne (ne_of_none (g.keep b u nb e) n)]; exact g.keep b u nb e, g.tape.keeps (same_new n)⟩
/-- an object that came behind H is changed -/
theorem Go.mut {t c p : Addr} {H H' : Hp} {o : HO} (g : Go t c H H') (n : H p = none) (np : p ≠ t ∧ p ≠ c) : Go t c H (upd H' p o) := by
  refine ⟨fun b u nb e => ?_, ?_⟩
  · rw [upd_ne (ne_of_none e n)]
    exact g.keep b u nb e
  · obtain ⟨T, e1, ys, q, r, m, k, rfl, e2, h⟩ := g.tape
    exact ⟨_, by rw [upd_ne np.1.symm]; exact e1, ys, q, r, m, k, rfl, by rw [upd_ne np.2.symm]; exact e2, h⟩
theorem same_go {t c : Addr} {H0 H H' : Hp} (s : Same H0 H) (g : Go t c H H') (n : H0 t = none) : Same H0 H' := fun b o e => g.keep b o (fun z => by
  rw [z, n] at e
  cases e) (s b o e)
def spTape (K : PySem.W.Frag) : Sp := fun vs H Q _ => ∃ (a : Addr) (ns : List Int), vs = [.ref a] ∧ SqL K H a (ns.map V.int) ∧ ns.length ≤ 63 ∧ ∀ t c H', H t = none → Same H H' → TapeAt H' t c → Q (.ref t) H'
def spPick : Sp := fun vs H Q _ => ∃ (t c : Addr) (size : Int), vs = [.ref t, .int size] ∧ 0 < size ∧ size < 1073741824 ∧ TapeAt H t c ∧ ∀ d H', 0 ≤ d → d < size → Go t c H H' → Q (.int d) H'
def spSign : Sp := fun vs H Q _ => ∃ t c : Addr, vs = [.ref t] ∧ TapeAt H t c ∧ ∀ d H', 0 ≤ d → d < 100 → Go t c H H' → Q (.int d) H'
def Sgn (ns : List Int) : Prop := ∀ z ∈ ns, 0 ≤ z ∧ z < 100
def spSigns : Sp := fun vs H Q _ => ∃ (t c : Addr) (many : Int), vs = [.ref t, .int many] ∧ 0 ≤ many ∧ many ≤ 10000 ∧ TapeAt H t c ∧ ∀ p ns H', (ns.length : Int) = many → Sgn ns → H p = none → Go t c H H' → H' p = some (.lst (ns.map V.int)) → Q (.ref p) H'

/-! ### data: none, bools, ints, texts, lists, tuples, the empty dict -/
mutual
inductive Da (K : PySem.W.Frag) (H : Hp) : V → PyData → Prop
  | non : Da K H .non .none
  | bl (b : Bool) : Da K H (.bl b) (.bool b)
  | int (i : Int) : Da K H (.int i) (.int i)
  | str (x : Str) : Da K H (.str x) (.str x)
  | lst {a : Addr} {xs : List V} {ds : List PyData} : H a = some (.lst xs) → DaAll K H xs ds → Da K H (.ref a) (.list ds)
  | tup {a : Addr} {xs : List V} {ds : List PyData} : H a = some (.tup xs) → DaAll K H xs ds → Da K H (.ref a) (.tuple ds)
  | dic {a : Addr} : H a = some (.dK []) → Da K H (.ref a) (.dict [])
inductive DaAll (K : PySem.W.Frag) (H : Hp) : List V → List PyData → Prop
  | nil : DaAll K H [] []
  | cons {v : V} {vs : List V} {d : PyData} {ds : List PyData} : Da K H v d → DaAll K H vs ds → DaAll K H (v :: vs) (d :: ds)
end
mutual
theorem Da.keep {K : PySem.W.Frag} {H H' : Hp} (s : Same H H') : ∀ (d : PyData) (v : V), Da K H v d → Da K H' v d
  | .none, _, h => by cases h; exact .non
  | .bool _, _, h => by cases h; exact .bl _
  | .int _, _, h => by cases h; exact .int _
  | .str _, _, h => by cases h; exact .str _
  | .list ds, _, h => by
    cases h with
    | lst e a => exact .lst (s _ _ e) (DaAll.keep s ds _ a)
  | .tuple ds, _, h => by
    cases h with
    | tup e a => exact .tup (s _ _ e) (DaAll.keep s ds _ a)
  | .dict _, _, h => by
    cases h with
    | dic e => exact .dic (s _ _ e)
theorem DaAll.keep {K : PySem.W.Frag} {H H' : Hp} (s : Same H H') : ∀ (ds : List PyData) (vs : List V), DaAll K H vs ds → DaAll K H' vs ds
  | [], _, h => by cases h; exact .nil
  | d :: ds, _, h => by
    cases h with
    | cons a b => exact .cons (Da.keep s d _ a) (DaAll.keep s ds _ b)
end
theorem DaAll.ints {K : PySem.W.Frag} {H : Hp} : ∀ ns : List Int, DaAll K H (ns.map V.int) (ns.map PyData.int)
  | [] => .nil
  | n :: ns => .cons (.int n) (DaAll.ints ns)
theorem DaAll.get {K : PySem.W.Frag} {H : Hp} : ∀ {vs : List V} {ds : List PyData} {i : Nat} {v : V}, DaAll K H vs ds → vs[i]? = some v → ∃ d, ds[i]? = some d ∧ Da K H v d
  | _, _, _, _, .nil, e => by simp at e
  | _, _, 0, _, .cons h _, e => by simp at e; subst e; exact ⟨_, rfl, h⟩
  | _, _, i + 1, v, .cons _ t, e => by
    obtain ⟨d, h1, h2⟩ := DaAll.get (i := i) (v := v) t (by simpa using e)
    exact ⟨d, by simpa using h1, h2⟩
theorem DaAll.len {K : PySem.W.Frag} {H : Hp} : ∀ {vs : List V} {ds : List PyData}, DaAll K H vs ds → vs.length = ds.length
  | _, _, .nil => rfl
  | _, _, .cons _ t => by rw [List.length_cons, List.length_cons, DaAll.len t]
def tyD : PyData → String
  | .none => "NoneType" | .bool _ => "bool" | .int _ => "int" | .str _ => "str" | .list _ => "list" | .tuple _ => "tuple" | .dict _ => "dict"
theorem Da.ty {K : PySem.W.Frag} {H : Hp} {v : V} {d : PyData} (h : Da K H v d) : TyX K H v (.type (tyD d)) := by
  cases h with
  | non => exact .base .non
  | bl b => exact .base (.bl b)
  | int i => exact .base (.int i)
  | str x => exact .base (.str x)
  | lst e a => exact .base (.lst e)
  | tup e a => exact .base (.tup e)
  | dic e => exact .base (.dK e)
def dInt : PyData → Bool | .int _ => true | .bool _ => true | _ => false
def dBool : PyData → Bool | .bool _ => true | _ => false
def dStr : PyData → Bool | .str _ => true | _ => false
def dList : PyData → Bool | .list _ => true | _ => false
def dTuple : PyData → Bool | .tuple _ => true | _ => false
def dSeq : PyData → Bool | .list _ => true | .tuple _ => true | _ => false
theorem is_int {K : PySem.W.Frag} : ∀ d : PyData, PySem.W.kitOne K (.type (tyD d)) (.type "int") = some (dInt d)
  | .none => kit_ty (a := "NoneType") (b := "int") (r := false) (by decide +kernel)
  | .bool _ => kit_ty (a := "bool") (b := "int") (r := true) (by decide +kernel)
  | .int _ => kit_ty (a := "int") (b := "int") (r := true) (by decide +kernel)
  | .str _ => kit_ty (a := "str") (b := "int") (r := false) (by decide +kernel)
  | .list _ => kit_ty (a := "list") (b := "int") (r := false) (by decide +kernel)
  | .tuple _ => kit_ty (a := "tuple") (b := "int") (r := false) (by decide +kernel)
  | .dict _ => kit_ty (a := "dict") (b := "int") (r := false) (by decide +kernel)
theorem is_bool {K : PySem.W.Frag} : ∀ d : PyData, PySem.W.kitOne K (.type (tyD d)) (.type "bool") = some (dBool d)
  | .none => kit_ty (a := "NoneType") (b := "bool") (r := false) (by decide +kernel)
  | .bool _ => kit_ty (a := "bool") (b := "bool") (r := true) (by decide +kernel)
  | .int _ => kit_ty (a := "int") (b := "bool") (r := false) (by decide +kernel)
  | .str _ => kit_ty (a := "str") (b := "bool") (r := false) (by decide +kernel)
  | .list _ => kit_ty (a := "list") (b := "bool") (r := false) (by decide +kernel)
  | .tuple _ => kit_ty (a := "tuple") (b := "bool") (r := false) (by decide +kernel)
  | .dict _ => kit_ty (a := "dict") (b := "bool") (r := false) (by decide +kernel)
theorem is_str {K : PySem.W.Frag} : ∀ d : PyData, PySem.W.kitOne K (.type (tyD d)) (.type "str") = some (dStr d)
  | .none => kit_ty (a := "NoneType") (b := "str") (r := false) (by decide +kernel)
  | .bool _ => kit_ty (a := "bool") (b := "str") (r := false) (by decide +kernel)
  | .int _ => kit_ty (a := "int") (b := "str") (r := false) (by decide +kernel)
  | .str _ => kit_ty (a := "str") (b := "str") (r := true) (by decide +kernel)
  | .list _ => kit_ty (a := "list") (b := "str") (r := false) (by decide +kernel)
  | .tuple _ => kit_ty (a := "tuple") (b := "str") (r := false) (by decide +kernel)
  | .dict _ => kit_ty (a := "dict") (b := "str") (r := false) (by decide +kernel)
theorem is_list {K : PySem.W.Frag} : ∀ d : PyData, PySem.W.kitOne K (.type (tyD d)) (.type "list") = some (dList d)
  | .none => kit_ty (a := "NoneType") (b := "list") (r := false) (by decide +kernel)
  | .bool _ => kit_ty (a := "bool") (b := "list") (r := false) (by decide +kernel)
  | .int _ => kit_ty (a := "int") (b := "list") (r := false) (by decide +kernel)
  | .str _ => kit_ty (a := "str") (b := "list") (r := false) (by decide +kernel)
  | .list _ => kit_ty (a := "list") (b := "list") (r := true) (by decide +kernel)
  | .tuple _ => kit_ty (a := "tuple") (b := "list") (r := false) (by decide +kernel)
  | .dict _ => kit_ty (a := "dict") (b := "list") (r := false) (by decide +kernel)
theorem is_tuple {K : PySem.W.Frag} : ∀ d : PyData, PySem.W.kitOne K (.type (tyD d)) (.type "tuple") = some (dTuple d)
  | .none => kit_ty (a := "NoneType") (b := "tuple") (r := false) (by decide +kernel)
  | .bool _ => kit_ty (a := "bool") (b := "tuple") (r := false) (by decide +kernel)
  | .int _ => kit_ty (a := "int") (b := "tuple") (r := false) (by decide +kernel)
  | .str _ => kit_ty (a := "str") (b := "tuple") (r := false) (by decide +kernel)
  | .list _ => kit_ty (a := "list") (b := "tuple") (r := false) (by decide +kernel)
  | .tuple _ => kit_ty (a := "tuple") (b := "tuple") (r := true) (by decide +kernel)
  | .dict _ => kit_ty (a := "dict") (b := "tuple") (r := false) (by decide +kernel)
theorem is_seq {K : PySem.W.Frag} : ∀ d : PyData, PySem.W.kitAny K (.type (tyD d)) [.type "list", .type "tuple"] = some (dSeq d)
  | .none => kitAny_cons (is_list .none) (fun _ => kitAny_cons (is_tuple .none) (fun _ => kitAny_nil) (fun z => by cases z)) (fun z => by cases z)
  | .bool x => kitAny_cons (is_list (.bool x)) (fun _ => kitAny_cons (is_tuple (.bool x)) (fun _ => kitAny_nil) (fun z => by cases z)) (fun z => by cases z)
  | .int x => kitAny_cons (is_list (.int x)) (fun _ => kitAny_cons (is_tuple (.int x)) (fun _ => kitAny_nil) (fun z => by cases z)) (fun z => by cases z)
  | .str x => kitAny_cons (is_list (.str x)) (fun _ => kitAny_cons (is_tuple (.str x)) (fun _ => kitAny_nil) (fun z => by cases z)) (fun z => by cases z)
  | .list x => kitAny_cons (is_list (.list x)) (fun z => by cases z) (fun _ => rfl)
  | .tuple x => kitAny_cons (is_list (.tuple x)) (fun _ => kitAny_cons (is_tuple (.tuple x)) (fun z => by cases z) (fun _ => rfl)) (fun z => by cases z)
  | .dict x => kitAny_cons (is_list (.dict x)) (fun _ => kitAny_cons (is_tuple (.dict x)) (fun _ => kitAny_nil) (fun z => by cases z)) (fun z => by cases z)
/-- whole numbers, signs, forms, rows, things -/
def dWhole : PyData → Bool | .int _ => true | _ => false
def dSign : PyData → Bool | .int i => decide (0 ≤ i) && decide (i < 100) | _ => false
def dForm : PyData → Bool | .int i => decide (0 ≤ i) && decide (i < 5) | _ => false
def dItems : PyData → List PyData | .list ds => ds | .tuple ds => ds | _ => []
def dRow (d : PyData) : Bool := dSeq d && (dItems d).all dSign
def dThing (d : PyData) : Bool := dRow d && (decide (2 ≤ (dItems d).length) && (match dItems d with | x :: _ => dForm x | [] => false))
def spD (K : PySem.W.Frag) (f : PyData → Bool) : Sp := fun vs H Q _ => ∃ (v : V) (d : PyData), vs = [v] ∧ Da K H v d ∧ ∀ H', Same H H' → Q (.bl (f d)) H'

/-- a sequence of a known kind: a list (true), a tuple (false) -/
def SqB (K : PySem.W.Frag) (H : Hp) (a : Addr) (xs : List V) : Bool → Prop
  | true => SqL K H a xs
  | false => SqT K H a xs
theorem SqB.keep {K : PySem.W.Frag} {H H' : Hp} {a : Addr} {xs : List V} : ∀ {b : Bool}, SqB K H a xs b → Same H H' → SqB K H' a xs b
  | true, h, s => same_l s h
  | false, h, s => same_t s h
theorem Da.seq {K : PySem.W.Frag} {H : Hp} {v : V} {d : PyData} (h : Da K H v d) (e : dSeq d = true) : ∃ (a : Addr) (xs : List V) (b : Bool), v = .ref a ∧ DaAll K H xs (dItems d) ∧ SqB K H a xs b ∧ dList d = b ∧ dTuple d = !b := by
  cases h with
  | lst e1 a1 => exact ⟨_, _, true, rfl, a1, SqL.of e1, rfl, rfl⟩
  | tup e1 a1 => exact ⟨_, _, false, rfl, a1, SqT.of e1, rfl, rfl⟩
  | _ => cases e
theorem for_seq {K : PySem.W.Frag} {a : Addr} {xs : List V} {g : TG} {tb : TS} {D : Ends} {σ : L2.St} {H : Hp} (b : Bool) (Pv : Nat → L2.St → Hp → Prop) (h0 : Pv 0 σ H) (hl : ∀ i σ H, i ≤ xs.length → Pv i σ H → SqB K H a xs b)
    (hs : ∀ i x σ H, xs[i]? = some x → Pv i σ H → g x σ H fun σ2 H2 => tb { D with nx := Pv (i + 1), ct := Pv (i + 1), bk := D.nx } σ2 H2) (hd : ∀ σ H, Pv xs.length σ H → D.nx σ H) : tFor (iSeq K (tC (.ref a))) g tb D σ H := by
  cases b with
  | true => exact ⟨a, rfl, .inl ⟨⟨xs, hl 0 σ H (Nat.zero_le _) h0⟩, for_list Pv h0 hl hs hd⟩⟩
  | false => exact ⟨a, rfl, .inr ⟨⟨xs, hl 0 σ H (Nat.zero_le _) h0⟩, for_tup Pv h0 hl hs hd⟩⟩
theorem all_at {f : PyData → Bool} : ∀ {ds : List PyData}, (∀ (i : Nat) (d : PyData), ds[i]? = some d → f d = true) → ds.all f = true
  | [], _ => rfl
  | d :: ds, h => by
    rw [List.all_cons, h 0 d rfl, Bool.true_and]
    exact all_at fun i x e => h (i + 1) x e
theorem not_all {f : PyData → Bool} {ds : List PyData} {i : Nat} {d : PyData} (e : ds[i]? = some d) (h : f d = false) : ds.all f = false := by
  cases q : ds.all f with
  | false => rfl
  | true =>
    have z := List.all_eq_true.mp q d (List.mem_of_getElem? e)
    rw [h] at z
    cases z

/-! ### rows of signs, things -/
def toI : PyData → Int | .int i => i | _ => 0
def dInts (d : PyData) : List Int := (dItems d).map toI
theorem ints_of : ∀ {K : PySem.W.Frag} {H : Hp} {xs : List V} {ds : List PyData}, DaAll K H xs ds → ds.all dSign = true → xs = (ds.map toI).map V.int ∧ ds = (ds.map toI).map PyData.int ∧ Sgn (ds.map toI)
  | _, _, _, _, .nil, _ => ⟨rfl, rfl, fun _ h => nomatch h⟩
  | K, H, _, _, .cons (v := v) (d := d) (vs := vs) (ds := ds) hd ht, h => by
    rw [List.all_cons, Bool.and_eq_true] at h
    obtain ⟨e1, e2, e3⟩ := ints_of ht h.2
    cases d with
    | int i =>
      cases hd
      have hi : 0 ≤ i ∧ i < 100 := by
        have z : (decide (0 ≤ i) && decide (i < 100)) = true := h.1
        rw [Bool.and_eq_true, decide_eq_true_eq, decide_eq_true_eq] at z
        exact z
      refine ⟨by rw [List.map_cons, List.map_cons, ← e1]; rfl, by rw [List.map_cons, List.map_cons, ← e2]; rfl, fun z hz => ?_⟩
      rw [List.map_cons] at hz
      rcases List.mem_cons.mp hz with q | q
      · rw [q]
        exact hi
      · exact e3 z q
    | _ => cases h.1
theorem Da.row {K : PySem.W.Frag} {H : Hp} {v : V} {d : PyData} (h : Da K H v d) (e : dRow d = true) : ∃ (a : Addr) (b : Bool), v = .ref a ∧ SqB K H a ((dInts d).map V.int) b ∧ Sgn (dInts d) ∧ dItems d = (dInts d).map PyData.int ∧ dList d = b ∧ dTuple d = !b := by
  obtain ⟨e1, e2⟩ := Bool.and_eq_true_iff.mp e
  obtain ⟨a, xs, b, rfl, ha, hb, k1, k2⟩ := h.seq e1
  obtain ⟨z1, z2, z3⟩ := ints_of ha e2
  exact ⟨a, b, rfl, by rw [z1] at hb; exact hb, z3, z2, k1, k2⟩
theorem dInts_len (d : PyData) : (dInts d).length = (dItems d).length := List.length_map ..
/-- form, number, signs behind -/
theorem thing_parts {d : PyData} (e : dThing d = true) : dRow d = true ∧ ∃ (f n : Int) (r : List Int), dInts d = f :: n :: r ∧ 0 ≤ f ∧ f < 5 := by
  obtain ⟨e1, e2⟩ := Bool.and_eq_true_iff.mp e
  obtain ⟨e3, e4⟩ := Bool.and_eq_true_iff.mp e2
  have hl := of_decide_eq_true e3
  refine ⟨e1, ?_⟩
  cases hd : dItems d with
  | nil => rw [hd] at hl; cases hl
  | cons x xr =>
    rw [hd] at hl e4
    cases xr with
    | nil => exact absurd (show 2 ≤ 1 from hl) (by decide)
    | cons y r =>
      cases x with
      | int i =>
        have z : (decide (0 ≤ i) && decide (i < 5)) = true := e4
        rw [Bool.and_eq_true, decide_eq_true_eq, decide_eq_true_eq] at z
        exact ⟨i, toI y, r.map toI, by unfold dInts; rw [hd]; rfl, z.1, z.2⟩
      | _ => cases e4
def dFst (d : PyData) : Int := (dInts d).getD 0 0
def dSnd (d : PyData) : Int := (dInts d).getD 1 0
def shiftI (by_ : Int) (ns : List Int) : List Int := ns.map fun z => (z + by_) % 100
def dBody (d : PyData) : List Int := shiftI (-20 * dFst d) ((dInts d).drop 2)
def spShifted (K : PySem.W.Frag) : Sp := fun vs H Q _ => ∃ (a : Addr) (ns : List Int) (b : Bool) (by_ : Int), vs = [.ref a, .int by_] ∧ SqB K H a (ns.map V.int) b ∧ ns.length ≤ 1000000 ∧ ∀ p H', Same H H' → H' p = some (.tup ((shiftI by_ ns).map V.int)) → Q (.ref p) H'
/-- the error of the class at C with the value v leaves -/
def Out (E : XK) (H : Hp) (C : Addr) (v : V) : Prop := ∀ dd H', Same H H' → H' dd = some (.xd [(("value" : Str), v)]) → E (.ref C) (some dd) H'
theorem Out.new {E : XK} {H H1 : Hp} {C : Addr} {v : V} (o : Out E H C v) (s : Same H H1) {d : Addr} (n : H1 d = none) : E (.ref C) (some d) (upd H1 d (.xd [(("value" : Str), v)])) := o d _ (s.trans (same_new n)) upd_same
@[irreducible] def spThing1 (K : PySem.W.Frag) (C : Addr) (f : PyData → Int) : Sp := fun vs H Q E => ∃ (v : V) (d : PyData), vs = [v] ∧ Da K H v d ∧ (dThing d = true → ∀ H', Same H H' → Q (.int (f d)) H') ∧ (dThing d = false → Out E H C v)
@[irreducible] def spBodyOf (K : PySem.W.Frag) (C : Addr) : Sp := fun vs H Q E => ∃ (v : V) (d : PyData), vs = [v] ∧ Da K H v d ∧ (dItems d).length ≤ 1000000 ∧ (dThing d = true → ∀ p H', Same H H' → H' p = some (.tup ((dBody d).map V.int)) → Q (.ref p) H') ∧ (dThing d = false → Out E H C v)
@[irreducible] def spThingOf (K : PySem.W.Frag) (CF CS CR : Addr) : Sp := fun vs H Q E => ∃ (v1 v2 v3 : V) (d1 d2 d3 : PyData), vs = [v1, v2, v3] ∧ Da K H v1 d1 ∧ Da K H v2 d2 ∧ Da K H v3 d3 ∧ (dItems d3).length ≤ 1000000 ∧
  (dForm d1 = true → dSign d2 = true → dRow d3 = true → ∀ p H', Same H H' → H' p = some (.tup ((toI d1 :: toI d2 :: shiftI (20 * toI d1) (dInts d3)).map V.int)) → Q (.ref p) H') ∧
  (dForm d1 = false → Out E H CF v1) ∧ (dForm d1 = true → dSign d2 = false → Out E H CS v2) ∧ (dForm d1 = true → dSign d2 = true → dRow d3 = false → Out E H CR v3)
theorem spThing1_of {K : PySem.W.Frag} {C : Addr} {f : PyData → Int} {H : Hp} {Q : VK} {E : XK} {v : V} {d : PyData} (h : Da K H v d) (q : dThing d = true → ∀ H', Same H H' → Q (.int (f d)) H') (qe : dThing d = false → Out E H C v) : spThing1 K C f [v] H Q E := by
  unfold spThing1
  exact ⟨v, d, rfl, h, q, qe⟩
theorem spBodyOf_of {K : PySem.W.Frag} {C : Addr} {H : Hp} {Q : VK} {E : XK} {v : V} {d : PyData} (h : Da K H v d) (hl : (dItems d).length ≤ 1000000) (q : dThing d = true → ∀ p H', Same H H' → H' p = some (.tup ((dBody d).map V.int)) → Q (.ref p) H') (qe : dThing d = false → Out E H C v) : spBodyOf K C [v] H Q E := by
  unfold spBodyOf
  exact ⟨v, d, rfl, h, hl, q, qe⟩
theorem spThingOf_of {K : PySem.W.Frag} {CF CS CR : Addr} {H : Hp} {Q : VK} {E : XK} {v1 v2 v3 : V} {d1 d2 d3 : PyData} (h1 : Da K H v1 d1) (h2 : Da K H v2 d2) (h3 : Da K H v3 d3) (hl : (dItems d3).length ≤ 1000000)
    (q : dForm d1 = true → dSign d2 = true → dRow d3 = true → ∀ p H', Same H H' → H' p = some (.tup ((toI d1 :: toI d2 :: shiftI (20 * toI d1) (dInts d3)).map V.int)) → Q (.ref p) H')
    (qf : dForm d1 = false → Out E H CF v1) (qs : dForm d1 = true → dSign d2 = false → Out E H CS v2) (qr : dForm d1 = true → dSign d2 = true → dRow d3 = false → Out E H CR v3) : spThingOf K CF CS CR [v1, v2, v3] H Q E := by
  unfold spThingOf
  exact ⟨v1, v2, v3, d1, d2, d3, rfl, h1, h2, h3, hl, q, qf, qs, qr⟩
theorem lc_seq {K : PySem.W.Frag} {a : Addr} {xs : List V} {tl : TE} {j : Nat} {te : TE} {vs : List Nat} {σ : L2.St} {H1 : Hp} {Q : VK} (htl : ∀ R : VK, R (.ref a) H1 → tl σ H1 R) (b : Bool) (h1 : SqB K H1 a xs b) (hw : ∀ x, wipe ((wipe σ vs).set j (some x)) vs = wipe σ vs)
    (step : ∀ D, H1 D = none → ∃ Pv : Nat → Hp → Prop, Pv 0 (upd H1 D (.lst [])) ∧ (∀ i H, i ≤ xs.length → Pv i H → SqB K H a xs b) ∧
      (∀ i x H, xs[i]? = some x → Pv i H → te ((wipe σ vs).set j (some x)) H fun y H4 => ∃ acc, H4 D = some (.lst acc) ∧ acc.length < sizeLine ∧ Pv (i + 1) (upd H4 D (.lst (acc ++ [y])))) ∧
      ∀ H, Pv xs.length H → Q (.ref D) H) : tLc (iSeq K tl) (gName j) tYes te vs σ H1 Q := by
  refine htl _ ?_
  cases b with
  | true =>
    refine ⟨a, rfl, .inl ⟨⟨xs, h1⟩, fun D hD => ?_⟩⟩
    obtain ⟨Pv, p0, pl, ps, pd⟩ := step D hD
    exact lc_list Pv p0 pl (fun i x H hx hp => ⟨hw x, ps i x H hx hp⟩) pd
  | false =>
    refine ⟨a, rfl, .inr ⟨⟨xs, h1⟩, fun D hD => ?_⟩⟩
    obtain ⟨Pv, p0, pl, ps, pd⟩ := step D hD
    exact lc_tup Pv p0 pl (fun i x H hx hp => ⟨hw x, ps i x H hx hp⟩) pd
theorem st_ret1 {te : TE} {D : Ends} {σ : L2.St} {H : Hp} (h : te σ H D.rt) : tRet te D σ H := h
theorem st_set1 {te : TE} {i : Nat} {D : Ends} {σ : L2.St} {H : Hp} (h : te σ H fun v H1 => D.nx (σ.set i (some v)) H1) : tAsg te (gName i) D σ H := h
theorem st_seq1 {t u : TS} {D : Ends} {σ : L2.St} {H : Hp} (h : t { D with nx := u D } σ H) : tSeq t u D σ H := h
theorem cb1 {r : List V → Hp → VK → Prop} {ta : TE} {σ : L2.St} {H : Hp} {Q : VK} (h : ta σ H fun x H1 => r [x] H1 Q) : tCB r (tCons ta tNil) σ H Q := h
theorem go_var {i : Nat} {v : V} {σ : L2.St} {H : Hp} (e : σ[i]? = some (some v)) (R : VK) (h : R v H) : tVar i σ H R := ⟨v, e, h⟩
/-- a slice of a list or of a tuple -/
theorem sl_any {X : Cx} : SlR X (fun x lo hi H Q => rSlL X.K x lo hi H Q ∨ rSlA X.K x lo hi H Q) := sl_list.or sl_tupA

/-! ### tuples of ints: ==, != -/
theorem dp_ints {K : PySem.W.Frag} {H : Hp} : ∀ ns : List Int, DpAll K H (ns.map V.int) (ns.map PyData.int)
  | [] => .nil
  | n :: ns => .cons (.int n) (dp_ints ns)
theorem lay_ints : ∀ ns : List Int, PyData.canLayAll0 (ns.map PyData.int) = true
  | [] => rfl
  | n :: ns => by
    show (PyData.canLay0 (.int n) && PyData.canLayAll0 (ns.map PyData.int)) = true
    rw [lay_ints ns]
    rfl
theorem depth_ints : ∀ ns : List Int, PyData.depthAll (ns.map PyData.int) = 0
  | [] => rfl
  | n :: ns => by
    show max (PyData.depth (.int n)) (PyData.depthAll (ns.map PyData.int)) = 0
    rw [depth_ints ns]
    rfl
theorem shaped_tup (ns : List Int) : SeqAt.shaped (.tuple (ns.map PyData.int)) = true := by
  show (PyData.canLayAll0 (ns.map PyData.int) && decide (PyData.depthAll (ns.map PyData.int) + 1 ≤ 64)) = true
  rw [lay_ints, depth_ints]
  rfl
theorem eqv_ints : ∀ ms ns : List Int, PyData.eqvAll (ms.map PyData.int) (ns.map PyData.int) = decide (ms = ns)
  | [], [] => rfl
  | [], _ :: _ => rfl
  | _ :: _, [] => rfl
  | m :: ms, n :: ns => by
    show ((m == n) && PyData.eqvAll (ms.map PyData.int) (ns.map PyData.int)) = _
    rw [eqv_ints ms ns, Bool.eq_iff_iff]
    simp
def rEqT (K : PySem.W.Frag) : R2 := fun x y H Q => ∃ (a b : Addr) (ms ns : List Int), x = .ref a ∧ y = .ref b ∧ SqT K H a (ms.map V.int) ∧ SqT K H b (ns.map V.int) ∧ Q (.bl (decide (ms = ns))) H
def rNeT (K : PySem.W.Frag) : R2 := fun x y H Q => ∃ (a b : Addr) (ms ns : List Int), x = .ref a ∧ y = .ref b ∧ SqT K H a (ms.map V.int) ∧ SqT K H b (ns.map V.int) ∧ Q (.bl (!decide (ms = ns))) H
theorem op_eqT {X : Cx} (hu : X.A.units + 64 < cLine) : OpR X (compareOp .Eq) (rEqT X.K) := by
  rintro pins s σ H x y v u Q I rx ry ⟨a, b, ms, ns, rfl, rfl, h1, h2, q⟩
  refine op_eqD hu pins s σ H _ _ v u Q I rx ry ⟨.tuple (ms.map PyData.int), .tuple (ns.map PyData.int), .tup h1 (dp_ints ms), .tup h2 (dp_ints ns), shaped_tup ms, shaped_tup ns, ?_⟩
  have e : PyData.eqv (.tuple (ms.map PyData.int)) (.tuple (ns.map PyData.int)) = decide (ms = ns) := eqv_ints ms ns
  rw [e]
  exact q
theorem op_neT {X : Cx} (hu : X.A.units + 64 < cLine) : OpR X (compareOp .NotEq) (rNeT X.K) := by
  rintro pins s σ H x y v u Q I rx ry ⟨a, b, ms, ns, rfl, rfl, h1, h2, q⟩
  refine op_neD hu pins s σ H _ _ v u Q I rx ry ⟨.tuple (ms.map PyData.int), .tuple (ns.map PyData.int), .tup h1 (dp_ints ms), .tup h2 (dp_ints ns), shaped_tup ms, shaped_tup ns, ?_⟩
  have e : PyData.eqv (.tuple (ms.map PyData.int)) (.tuple (ns.map PyData.int)) = decide (ms = ns) := eqv_ints ms ns
  rw [e]
  exact q

/-! ### things that are known -/
theorem Sgn.cons {z : Int} {ns : List Int} (h0 : 0 ≤ z) (h1 : z < 100) (h : Sgn ns) : Sgn (z :: ns) := fun y hy => by
  rcases List.mem_cons.mp hy with e | e
  · rw [e]
    exact ⟨h0, h1⟩
  · exact h y e
theorem Sgn.shift (b : Int) (ns : List Int) : Sgn (shiftI b ns) := fun z hz => by
  obtain ⟨y, _, rfl⟩ := List.mem_map.mp hz
  omega
theorem shift_back {f : Int} {ns : List Int} (h : Sgn ns) : shiftI (-20 * f) (shiftI (20 * f) ns) = ns := by
  unfold shiftI
  rw [List.map_map]
  have e : ∀ z ∈ ns, ((fun z => (z + -20 * f) % 100) ∘ fun z => (z + 20 * f) % 100) z = id z := fun z hz => by
    have q := h z hz
    show ((z + 20 * f) % 100 + -20 * f) % 100 = z
    omega
  rw [List.map_congr_left e, List.map_id]
theorem shift_len (b : Int) (ns : List Int) : (shiftI b ns).length = ns.length := List.length_map ..
theorem toI_ints (ns : List Int) : (ns.map PyData.int).map toI = ns := by
  rw [List.map_map]
  have e : ∀ z ∈ ns, (toI ∘ PyData.int) z = id z := fun z _ => rfl
  rw [List.map_congr_left e, List.map_id]
theorem dInts_tup (ns : List Int) : dInts (.tuple (ns.map PyData.int)) = ns := toI_ints ns
theorem dInts_lst (ns : List Int) : dInts (.list (ns.map PyData.int)) = ns := toI_ints ns
theorem dSign_of {z : Int} (h0 : 0 ≤ z) (h1 : z < 100) : dSign (.int z) = true := by
  show (decide (0 ≤ z) && decide (z < 100)) = true
  rw [decide_eq_true h0, decide_eq_true h1]
  rfl
theorem dForm_of {z : Int} (h0 : 0 ≤ z) (h1 : z < 5) : dForm (.int z) = true := by
  show (decide (0 ≤ z) && decide (z < 5)) = true
  rw [decide_eq_true h0, decide_eq_true h1]
  rfl
theorem all_sign {ns : List Int} (h : Sgn ns) : (ns.map PyData.int).all dSign = true := by
  rw [List.all_map, List.all_eq_true]
  intro z hz
  exact dSign_of (h z hz).1 (h z hz).2
theorem dRow_tup {ns : List Int} (h : Sgn ns) : dRow (.tuple (ns.map PyData.int)) = true := all_sign h
theorem dRow_lst {ns : List Int} (h : Sgn ns) : dRow (.list (ns.map PyData.int)) = true := all_sign h
/-- a thing's ints -/
def thg (f n : Int) (bs : List Int) : List Int := f :: n :: shiftI (20 * f) bs
theorem thg_sgn {f n : Int} {bs : List Int} (f0 : 0 ≤ f) (f1 : f < 5) (n0 : 0 ≤ n) (n1 : n < 100) : Sgn (thg f n bs) := .cons f0 (by omega) (.cons n0 n1 (.shift _ _))
theorem dThing_thg {f n : Int} {bs : List Int} (f0 : 0 ≤ f) (f1 : f < 5) (n0 : 0 ≤ n) (n1 : n < 100) : dThing (.tuple ((thg f n bs).map PyData.int)) = true := by
  unfold dThing
  rw [dRow_tup (thg_sgn f0 f1 n0 n1), Bool.true_and]
  show (decide (2 ≤ ((shiftI (20 * f) bs).map PyData.int).length + 1 + 1) && dForm (.int f)) = true
  rw [dForm_of f0 f1, decide_eq_true (by omega)]
  rfl
theorem thg_len (f n : Int) (bs : List Int) : (thg f n bs).length = bs.length + 2 := by
  show (shiftI (20 * f) bs).length + 2 = _
  rw [shift_len]
theorem thg_ecut (f n : Int) (bs : List Int) : cutV ((thg f n bs).map V.int) (some 2) none = (shiftI (20 * f) bs).map V.int := by
  unfold cutV
  rw [show HT.sIx ((thg f n bs).map V.int).length 0 (some 2) = min 2 ((thg f n bs).map V.int).length from HT.sIx_nat _ 0 2, HT.sIx_none, List.length_map, thg_len, show min 2 (bs.length + 2) = 2 by omega]
  show List.take _ ((shiftI (20 * f) bs).map V.int) = _
  apply List.take_of_length_le
  rw [List.length_map, shift_len]
  omega
theorem thg_ncut (f n : Int) (bs : List Int) : ¬ (HT.sIx ((thg f n bs).map V.int).length 0 (some 2) = 0 ∧ HT.sIx ((thg f n bs).map V.int).length ((thg f n bs).map V.int).length none = ((thg f n bs).map V.int).length) := fun z => by
  have z1 := z.1
  rw [show HT.sIx ((thg f n bs).map V.int).length 0 (some 2) = min 2 ((thg f n bs).map V.int).length from HT.sIx_nat _ 0 2, List.length_map, thg_len] at z1
  omega
theorem thg_inj {f n g m : Int} {bs cs : List Int} (h : thg f n bs = thg g m cs) : f = g ∧ n = m := by
  injection h with h1 h2
  injection h2 with h3 _
  exact ⟨h1, h3⟩
section
variable {K : PySem.W.Frag} {H : Hp} {Q : VK} {E : XK} {C CF CS CR p : Addr} {f n : Int} {bs : List Int}
theorem da_thg (h : H p = some (.tup ((thg f n bs).map V.int))) : Da K H (.ref p) (.tuple ((thg f n bs).map PyData.int)) := .tup h (.ints _)
theorem is_thing_ok (f0 : 0 ≤ f) (f1 : f < 5) (n0 : 0 ≤ n) (n1 : n < 100) (h : H p = some (.tup ((thg f n bs).map V.int))) (q : ∀ H', Same H H' → Q (.bl true) H') : spD K dThing [.ref p] H Q E :=
  ⟨_, _, rfl, da_thg h, fun H' s => by rw [dThing_thg f0 f1 n0 n1]; exact q H' s⟩
theorem form_ok (f0 : 0 ≤ f) (f1 : f < 5) (n0 : 0 ≤ n) (n1 : n < 100) (h : H p = some (.tup ((thg f n bs).map V.int))) (q : ∀ H', Same H H' → Q (.int f) H') : spThing1 K C dFst [.ref p] H Q E :=
  spThing1_of (da_thg h) (fun _ H' s => by
    have e : dFst (.tuple ((thg f n bs).map PyData.int)) = f := by unfold dFst; rw [dInts_tup]; rfl
    rw [e]
    exact q H' s) fun z => by (rw [dThing_thg f0 f1 n0 n1] at z; cases z)
theorem number_ok (f0 : 0 ≤ f) (f1 : f < 5) (n0 : 0 ≤ n) (n1 : n < 100) (h : H p = some (.tup ((thg f n bs).map V.int))) (q : ∀ H', Same H H' → Q (.int n) H') : spThing1 K C dSnd [.ref p] H Q E :=
  spThing1_of (da_thg h) (fun _ H' s => by
    have e : dSnd (.tuple ((thg f n bs).map PyData.int)) = n := by unfold dSnd; rw [dInts_tup]; rfl
    rw [e]
    exact q H' s) fun z => by (rw [dThing_thg f0 f1 n0 n1] at z; cases z)
theorem body_ok (f0 : 0 ≤ f) (f1 : f < 5) (n0 : 0 ≤ n) (n1 : n < 100) (hs : Sgn bs) (hl : bs.length ≤ 999000) (h : H p = some (.tup ((thg f n bs).map V.int))) (q : ∀ p' H', Same H H' → H' p' = some (.tup (bs.map V.int)) → Q (.ref p') H') : spBodyOf K C [.ref p] H Q E :=
  spBodyOf_of (da_thg h) (by
    show ((thg f n bs).map PyData.int).length ≤ _
    rw [List.length_map, thg_len]
    omega) (fun _ p' H' s e => by
    have eb : dBody (.tuple ((thg f n bs).map PyData.int)) = bs := by
      unfold dBody dFst
      rw [dInts_tup]
      show shiftI (-20 * f) (shiftI (20 * f) bs) = bs
      exact shift_back hs
    rw [eb] at e
    exact q p' H' s e) fun z => by (rw [dThing_thg f0 f1 n0 n1] at z; cases z)
theorem thing_ok (f0 : 0 ≤ f) (f1 : f < 5) (n0 : 0 ≤ n) (n1 : n < 100) (hs : Sgn bs) (hl : bs.length ≤ 1000000) (h : H p = some (.tup (bs.map V.int))) (q : ∀ p' H', Same H H' → H' p' = some (.tup ((thg f n bs).map V.int)) → Q (.ref p') H') :
    spThingOf K CF CS CR [.int f, .int n, .ref p] H Q E :=
  spThingOf_of (d3 := .tuple (bs.map PyData.int)) (.int f) (.int n) (.tup h (.ints bs)) (by
    show (bs.map PyData.int).length ≤ _
    rw [List.length_map]
    exact hl) (fun _ _ _ p' H' s e => by
    rw [dInts_tup] at e
    exact q p' H' s e) (fun z => by (rw [dForm_of f0 f1] at z; cases z)) (fun _ z => by (rw [dSign_of n0 n1] at z; cases z)) fun _ _ z => by (rw [dRow_tup hs] at z; cases z)
end

theorem TapeAt.mut {H : Hp} {t c p : Addr} {o : HO} (h : TapeAt H t c) (n : p ≠ t ∧ p ≠ c) : TapeAt (upd H p o) t c := by
  obtain ⟨T, e1, ys, q, r, m, k, rfl, e2, h⟩ := h
  exact ⟨_, by rw [upd_ne n.1.symm]; exact e1, ys, q, r, m, k, rfl, by rw [upd_ne n.2.symm]; exact e2, h⟩
theorem TapeAt.tup_ne {H : Hp} {t c p : Addr} {xs : List V} (h : TapeAt H t c) (e : H p = some (.tup xs)) : p ≠ t := fun z => by
  obtain ⟨T, e1, _⟩ := h
  rw [z, e1] at e
  cases e
theorem rep_len {α : Type} (xs : List α) : ∀ k : Nat, (List.replicate k xs).flatten.length = k * xs.length
  | 0 => by simp
  | k + 1 => by
    rw [List.replicate_succ, List.flatten_cons, List.length_append, rep_len xs k, Nat.succ_mul, Nat.add_comm]
theorem erase_map {α β : Type} (f : α → β) : ∀ (l : List α) (k : Nat), (l.map f).eraseIdx k = (l.eraseIdx k).map f
  | [], _ => rfl
  | _ :: _, 0 => rfl
  | x :: l, k + 1 => by
    show f x :: (l.map f).eraseIdx k = f x :: (l.eraseIdx k).map f
    rw [erase_map f l k]
theorem erase_perm {α : Type} : ∀ {l : List α} {k : Nat} {x : α}, l[k]? = some x → (x :: l.eraseIdx k).Perm l
  | [], k, x, h => by simp at h
  | a :: l, 0, x, h => by
    have e : a = x := Option.some.inj h
    rw [e]
    exact .refl _
  | a :: l, k + 1, x, h => by
    have ih := erase_perm (l := l) (k := k) (x := x) h
    show (x :: a :: l.eraseIdx k).Perm (a :: l)
    exact (List.Perm.swap a x _).trans (ih.cons a)
end Fd

set_option maxRecDepth 100000
set_option maxHeartbeats 2000000
namespace Fd
open PySem PySem.Spec PyProof.Rows L2

/-! ### data as it lies in the real heap, and what repr writes of it -/
section
variable {P : Program} {w : World} {K : PySem.W.Frag} {H : Hp} {h : Heap}
theorem dict0_at (hok : HOk P w H h) {a : Addr} (e : H a = some (.dK [])) : (a == sysModules) = false ∧ ∃ o es n, h.get? a = some o ∧ o.cls = .type "dict" ∧ o.data = .dict es n ∧ es.toList = [] := by
  have z : ObjOk P w H h a (.dK []) := hok a _ e
  obtain ⟨_, ns, vs, kv, o, es, n, g, ed, dd, ko, pr, nd⟩ := z
  have e0 : vs = [] := by
    cases kv
    rfl
  subst e0
  refine ⟨ns, o, es, n, g, ed.1, dd, ?_⟩
  generalize es.toList = l at pr
  cases pr
  rfl
mutual
theorem Da.reads (hok : HOk P w H h) : ∀ (d : PyData) (v : V) (u : Value), Da K H v d → RelV v u → ∃ as, Reads h u d as
  | .none, _, u, x, r => by
    cases x
    obtain rfl : u = Value.none := r
    exact ⟨_, .none⟩
  | .bool _, _, u, x, r => by
    cases x
    obtain rfl : u = Value.bool _ := r
    exact ⟨_, .bool _⟩
  | .int _, _, u, x, r => by
    cases x
    obtain ⟨t, rfl⟩ : ∃ t, u = Value.int _ t := r
    exact ⟨_, .int _ _⟩
  | .str _, _, u, x, r => by
    cases x
    obtain ⟨t, rfl⟩ : ∃ t, u = Value.str _ t := r
    exact ⟨_, .str _ _⟩
  | .list ds, _, u, x, r => by
    cases x with
    | @lst a xs _ e l =>
      obtain rfl : u = Value.ref a := r
      have z : ObjOk P w H h a (.lst xs) := hok a _ e
      obtain ⟨_, its, n, rv, g⟩ := z
      obtain ⟨as, q⟩ := DaAll.reads hok ds xs its l rv
      exact ⟨_, .list g rfl rfl q⟩
  | .tuple ds, _, u, x, r => by
    cases x with
    | @tup a xs _ e l =>
      obtain rfl : u = Value.ref a := r
      have z : ObjOk P w H h a (.tup xs) := hok a _ e
      obtain ⟨_, its, rv, o, g, c, n, dd⟩ := z
      obtain ⟨as, q⟩ := DaAll.reads hok ds xs its l rv
      exact ⟨_, .tuple g c dd q⟩
  | .dict ds, _, u, x, r => by
    cases x with
    | @dic a e =>
      obtain rfl : u = Value.ref a := r
      obtain ⟨_, o, es, n, g, c, dd, el⟩ := dict0_at hok e
      refine ⟨_, .dict g c dd (as := []) (bs := []) ?_ ?_⟩ <;> (rw [el]; exact .nil)
theorem DaAll.reads (hok : HOk P w H h) : ∀ (ds : List PyData) (vs : List V) (us : List Value), DaAll K H vs ds → Vals vs us → ∃ as, ReadsAll h us ds as
  | [], _, us, x, r => by
    cases x
    cases r
    exact ⟨_, .nil⟩
  | d :: ds, _, us, x, r => by
    cases x with
    | cons x1 x2 =>
      cases r with
      | cons r1 r2 =>
        obtain ⟨as, q⟩ := Da.reads hok d _ _ x1 r1
        obtain ⟨bs, q2⟩ := DaAll.reads hok ds _ _ x2 r2
        exact ⟨_, .cons q q2⟩
end
theorem most_cons {a : Addr} {d : PyData} {as bs : List Addr} {n : Nat} (r : Reads h (.ref a) d as) (hn : d.depth = n + 1) (hb : ReadAtMost h n bs) : ReadAtMost h d.depth (a :: bs) ∧ a ∉ bs :=
  ⟨ReadAtMost.cons r (by omega) hb, not_mem_of_deeper r (by omega) hb⟩
mutual
theorem Da.repr (hok : HOk P w H h) : ∀ (d : PyData) (v : V) (u : Value), Da K H v d → RelV v u → d.showable = true → d.shown.length ≤ sizeLine → ∃ bs, ReadAtMost h d.depth bs ∧ ReprK P w bs h d.depth u d.shown
  | .none, _, u, x, r, _, _ => by
    cases x
    obtain rfl : u = Value.none := r
    refine ⟨[], nofun, ?_⟩
    rw [PyData.shown]
    exact .of_is .none _ _ _
  | .bool b, _, u, x, r, _, _ => by
    cases x
    obtain rfl : u = Value.bool _ := r
    refine ⟨[], nofun, ?_⟩
    rw [PyData.shown]
    exact .of_is (.bool b) _ _ _
  | .int i, _, u, x, r, hs, _ => by
    cases x
    obtain ⟨t, rfl⟩ : ∃ t, u = Value.int _ t := r
    refine ⟨[], nofun, ?_⟩
    rw [PyData.shown]
    exact .of_is (.int t (by simpa [PyData.showable] using hs)) _ _ _
  | .str y, _, u, x, r, _, hz => by
    cases x
    obtain ⟨t, rfl⟩ : ∃ t, u = Value.str _ t := r
    refine ⟨[], nofun, ?_⟩
    rw [PyData.shown] at hz ⊢
    exact .of_is (.str y t hz) _ _ _
  | .list ds, v, u, x, r, hs, hz => by
    obtain ⟨as, rd⟩ := Da.reads hok _ v u x r
    cases x with
    | @lst a xs _ e l =>
      obtain rfl : u = Value.ref a := r
      have z : ObjOk P w H h a (.lst xs) := hok a _ e
      obtain ⟨_, its, n, rv, g⟩ := z
      rw [PyData.shown] at hz
      obtain ⟨bs, hb, hk⟩ := DaAll.repr hok ds xs its l rv (by simpa [PyData.showable] using hs) fun t ht => Nat.le_trans (listText_mem_le ht) hz
      have m := most_cons rd (n := PyData.depthAll ds) (by simp only [PyData.depth]) hb
      refine ⟨a :: bs, m.1, ?_⟩
      rw [PyData.shown, PyData.depth]
      cases its with
      | nil =>
        have e0 : ds = [] := by
          have z1 := l.len
          have z2 := Vals.length rv
          exact List.eq_nil_of_length_eq_zero (by rw [← z1, z2]; rfl)
        subst e0
        rw [PyData.shownAll, listText_nil]
        exact ReprK.listEmpty g rfl rfl
      | cons y its => exact ReprK.list g rfl rfl m.2 (by rw [hk.length_eq]; simp) fun i t e => hk.item i t (by simpa using e)
  | .tuple ds, v, u, x, r, hs, hz => by
    obtain ⟨as, rd⟩ := Da.reads hok _ v u x r
    cases x with
    | @tup a xs _ e l =>
      obtain rfl : u = Value.ref a := r
      have z : ObjOk P w H h a (.tup xs) := hok a _ e
      obtain ⟨_, its, rv, o, g, c, n, dd⟩ := z
      rw [PyData.shown] at hz
      obtain ⟨bs, hb, hk⟩ := DaAll.repr hok ds xs its l rv (by simpa [PyData.showable] using hs) fun t ht => Nat.le_trans (tupleText_mem_le ht) hz
      have m := most_cons rd (n := PyData.depthAll ds) (by simp only [PyData.depth]) hb
      refine ⟨a :: bs, m.1, ?_⟩
      rw [PyData.shown, PyData.depth]
      exact ReprK.tuple g c dd m.2 hk
  | .dict ds, v, u, x, r, hs, hz => by
    obtain ⟨as, rd⟩ := Da.reads hok _ v u x r
    cases x with
    | @dic a e =>
      obtain rfl : u = Value.ref a := r
      obtain ⟨ns, o, es, n, g, c, dd, el⟩ := dict0_at hok e
      have m := most_cons rd (n := PyData.depthKv []) (bs := []) (by simp only [PyData.depth]) nofun
      refine ⟨[a], m.1, ?_⟩
      rw [PyData.shown, PyData.depth]
      exact ReprK.dict g c dd ns m.2 (by rw [el]; exact .nil)
theorem DaAll.repr (hok : HOk P w H h) : ∀ (ds : List PyData) (vs : List V) (us : List Value), DaAll K H vs ds → Vals vs us → PyData.showableAll ds = true → (∀ t ∈ PyData.shownAll ds, t.length ≤ sizeLine) →
    ∃ bs, ReadAtMost h (PyData.depthAll ds) bs ∧ ReprAllK P w bs h (PyData.depthAll ds) us (PyData.shownAll ds)
  | [], _, us, x, r, _, _ => by
    cases x
    cases r
    refine ⟨[], nofun, ?_⟩
    rw [PyData.shownAll]
    exact .nil
  | d :: ds, _, us, x, r, hs, hz => by
    cases x with
    | cons x1 x2 =>
      cases r with
      | cons r1 r2 =>
        rw [PyData.shownAll] at hz ⊢
        rw [PyData.showableAll, Bool.and_eq_true] at hs
        obtain ⟨bs, q1, q2⟩ := Da.repr hok d _ _ x1 r1 hs.1 (hz _ List.mem_cons_self)
        obtain ⟨cs, q3, q4⟩ := DaAll.repr hok ds _ _ x2 r2 hs.2 fun t ht => hz t (List.mem_cons_of_mem _ ht)
        rw [PyData.depthAll]
        refine ⟨bs ++ cs, (q1.mono (Nat.le_max_left _ _)).append (q3.mono (Nat.le_max_right _ _)), .cons ((q2.more fun b hb => List.mem_append_left _ hb).level_le (Nat.le_max_left _ _)) (q4.more_le (fun b hb => List.mem_append_right _ hb) (Nat.le_max_right _ _))⟩
end
/-- by which slot a thing made of data shows itself -/
theorem Da.shows (hok : HOk P w H h) {a : Addr} {d : PyData} (x : Da K H (.ref a) d) (hs : d.showable = true) (hz : d.shown.length ≤ sizeLine) : ∃ T idr, ShowsBy P w h a d T idr := by
  obtain ⟨as, rd⟩ := Da.reads hok d _ (.ref a) x rfl
  cases x with
  | @lst _ xs ds e l =>
    have z : ObjOk P w H h a (.lst xs) := hok a _ e
    obtain ⟨_, its, n, rv, g⟩ := z
    rw [PyData.shown] at hz
    obtain ⟨bs, hb, hk⟩ := DaAll.repr hok ds xs its l rv (by simpa [PyData.showable] using hs) fun t ht => Nat.le_trans (listText_mem_le ht) hz
    have m := most_cons rd (n := PyData.depthAll ds) (by simp only [PyData.depth]) hb
    refine ⟨"list", _, F.slot_list_repr.toG, F.slot_list_str, F.slot_list_format, fun s k => ⟨_, k _ _ g, rfl⟩, fun A E s Q hg hu k hQ => ?_⟩
    rw [PyData.depth] at hu
    rw [PyData.shown] at hQ
    cases its with
    | nil =>
      have e0 : ds = [] := by
        have z1 := l.len
        have z2 := Vals.length rv
        exact List.eq_nil_of_length_eq_zero (by rw [← z1, z2]; rfl)
      subst e0
      rw [PyData.shownAll, listText_nil] at hQ
      exact call_list_repr_empty ⟨_, k _ _ g, rfl⟩ (k _ _ g) rfl (hQ s.heap _ _ fun _ _ e => e)
    | cons y its => exact call_list_reprK g rfl rfl m.2 (by rw [hk.length_eq]; simp) (fun i t e => hk.item i t (by simpa using e)) hg (fun b _ => Clear.nil b) hu k hQ hz
  | @tup _ xs ds e l =>
    have z : ObjOk P w H h a (.tup xs) := hok a _ e
    obtain ⟨_, its, rv, o, g, c, n, dd⟩ := z
    rw [PyData.shown] at hz
    obtain ⟨bs, hb, hk⟩ := DaAll.repr hok ds xs its l rv (by simpa [PyData.showable] using hs) fun t ht => Nat.le_trans (tupleText_mem_le ht) hz
    have m := most_cons rd (n := PyData.depthAll ds) (by simp only [PyData.depth]) hb
    refine ⟨"tuple", _, F.slot_tuple_repr, F.slot_tuple_str, F.slot_tuple_format, fun s k => ⟨_, k _ _ g, c⟩, fun A E s Q hg hu k hQ => ?_⟩
    rw [PyData.depth] at hu
    rw [PyData.shown] at hQ
    exact call_tuple_reprK g c dd m.2 hk hg (fun b _ => Clear.nil b) hu k hQ hz
  | @dic _ e =>
    obtain ⟨ns, o, es, n, g, c, dd, el⟩ := dict0_at hok e
    have m := most_cons rd (n := PyData.depthKv []) (bs := []) (by simp only [PyData.depth]) nofun
    rw [PyData.shown] at hz
    refine ⟨"dict", _, F.slot_dict_repr, F.slot_dict_str, F.slot_dict_format, fun s k => ⟨_, k _ _ g, c⟩, fun A E s Q hg hu k hQ => ?_⟩
    rw [PyData.depth] at hu
    rw [PyData.shown] at hQ
    exact call_dict_reprK g c dd ns m.2 (by rw [el]; exact .nil) hg (fun b _ => Clear.nil b) hu k hQ hz
end
/-- repr(e) of data -/
def rRepr (K : PySem.W.Frag) : List V → Hp → VK → Prop := fun xs H Q => ∃ (v : V) (d : PyData), xs = [v] ∧ Da K H v d ∧ d.showable = true ∧ d.shown.length ≤ sizeLine ∧ d.depth ≤ 50 ∧ Q (.str d.shown) H
theorem call_repr {X : Cx} (hg : X.A.guards = some []) (hu : X.A.units + 64 < cLine) : CallR X (.builtin "repr") (rRepr X.K) := by
  intro pins s σ H xs us Q I r ⟨v, d, e, x, hs, hz, hd, q⟩
  subst e
  obtain ⟨u, rfl, ru⟩ := vals1 r
  have byref : ∀ {a : Addr}, v = .ref a → wpAny (model X.prog X.w) X.A (call (.builtin "repr") [u]) (EP X pins σ Q) X.xe s := fun {a} e => by
    subst e
    obtain rfl : u = Value.ref a := ru
    obtain ⟨T, idr, S⟩ := Da.shows I.hok x hs hz
    refine call_repr_slot (by omega) (S.typeIs s fun _ _ e => e) S.slotRepr (S.call X.A.in1 X.xe s _ hg (by show X.A.units + 1 + d.depth < cLine; omega) (fun _ _ e => e) fun h' u tk hk => ⟨_, _, rfl, ?_⟩)
    exact ⟨.str d.shown, H, I.kept (t' := tk) hk, ⟨_, rfl⟩, q⟩
  cases x with
  | non =>
    obtain rfl : u = Value.none := ru
    rw [PyData.shown] at q
    exact PySem.P.repr_of_none ⟨.str _, H, I.tok _, ⟨_, rfl⟩, q⟩
  | bl b =>
    obtain rfl : u = Value.bool b := ru
    rw [PyData.shown] at q
    exact PySem.P.repr_of_bool ⟨.str _, H, I.tok _, ⟨_, rfl⟩, q⟩
  | int i =>
    obtain ⟨t, rfl⟩ : ∃ t, u = Value.int i t := ru
    rw [PyData.shown] at q
    exact PySem.P.repr_of_int (by simpa [PyData.showable] using hs) ⟨.str _, H, I.tok _, ⟨_, rfl⟩, q⟩
  | str y =>
    obtain ⟨t, rfl⟩ : ∃ t, u = Value.str y t := ru
    rw [PyData.shown] at q hz
    exact PySem.P.repr_of_str ⟨.str _, H, I.tok _, ⟨_, rfl⟩, q⟩ hz
  | lst e l => exact byref rfl
  | tup e l => exact byref rfl
  | dic e => exact byref rfl
end Fd

set_option maxRecDepth 100000
set_option maxHeartbeats 2000000
namespace Fd
open PySem PySem.Spec PyProof.Rows L2

/-! ### a def that is called where no repr runs -/
structure FnG (P : Program) (w : World) (K : PySem.W.Frag) (mg : Str → Option Value) (base : Heap)
    (k : Nat) (f : Addr) (fd : FuncData) (ps : List Str) (sp : Sp) : Prop where
  len : ∀ vs H Q E, sp vs H Q E → vs.length = ps.length
  run : ∀ (A : Around) (out : List Env) (s : Shared) (H : Hp) (args : Args) (us : List Value) (vs : List V) (Q : VK) (E : XK),
    A.guards = some [] → Room k A → Env0 P w K mg base A out s H →
    BindsTo s fd args (ps.zip us) → Vals vs us → sp vs H Q E →
    codeAny (model P w) A (.call (.ref f) args) (CR (L2.CX P w) out P w H s Q E) s
section
variable {P : Program} {w : World} {K : PySem.W.Frag} {mg : Str → Option Value} {base : Heap}
theorem FnG.of {k : Nat} {f : Addr} {fd : FuncData} {ps : List Str} {sp : Sp}
    (F : FnOk P w K mg base (L2.CX P w) k f fd ps sp) : FnG P w K mg base k f fd ps sp :=
  ⟨F.len, fun A out s H args us vs Q E _ hr => F.run A out s H args us vs Q E hr⟩
/-- its body as a term of rules, read where no repr runs -/
theorem fun_okG {x qual : Str} {st : Stmt} {f : Addr} {fd : FuncData} {N ps : List Str} {k : Nat} {sp : Sp}
    (F : Fun K x qual st f fd) (S : FnScope N ps (defScope st))
    (len : ∀ vs H Q E, sp vs H Q E → vs.length = ps.length)
    (body : ∀ (cdv : Value) (A : Around) (out : List Env) (s : Shared) (H : Hp) (vs : List V) (Q : VK) (E : XK),
      A.guards = some [] → Room k (A.deeper (envOfC qual (defScope st) s.heap.objs.size f cdv)) → sp vs H Q E →
      ∃ t, PSs (cxOf (L2.CX P w) P w K mg base N qual (defScope st) f cdv A out s H E) (defBody st) t ∧
        t { nx := fun _ H' => Q .non H', rt := Q } (start N vs) H) :
    FnG P w K mg base (k + 1) f fd ps sp := by
  obtain ⟨oc, od, kV, doc, pm, an, cdv, ct, osl, e, lk, hcd⟩ := F.ex
  subst e
  constructor
  · exact len
  intro A out s H args us vs Q E hg hr e0 hb r hsp
  have hl := len _ _ _ _ hsp
  have inK : K.In s.heap := PySem.W.Frag.In.keeps e0.mod.kin fun b o z => (e0.bs b o z).1
  have lim : s.heap.NoLimit := Heap.NoLimit.keeps e0.mod.nolimit fun b o z => (e0.bs b o z).1
  have kinds : ∀ y ∈ ps.zip us, (defScope st).names.lookup y.1 = some .local ∨
      ((defScope st).names.lookup y.1 = some .cell ∧
        ((cellsFrom (s.heap.objs.size + 1) (defScope st).names []).lookup y.1).isSome = true) := by
    rintro ⟨n, v⟩ hy
    have hn := S.par n (List.of_mem_zip hy).1
    cases hn with
    | inl q => exact .inl q
    | inr q => exact .inr ⟨q, PySem.W.cellsFrom_some _ _ _ (.inl q)⟩
  refine codeAny_call_function hr.depth (inK _ _ lk) rfl S.co S.gen rfl
    (PySem.W.codeRec_of inK hcd) (hb _ _ _ _ ?_)
  refine wpAny_newFunctionEnv_cells S.kind kinds ?_
  intro env he s1 x
  subst he
  constructor
  · exact Heap.NoLimit.keeps lim x.toInCall.keep
  refine codeAny_func ?_
  obtain ⟨t, ht, hq⟩ := body cdv A out s H vs Q E hg (Room.deeper hr _) hsp
  have I := inv_start (f := f) (cd := cdv) (E := E) (CX := L2.CX P w) S hr.hd e0 hl r x
  refine wpAny_mono (ht.run [] s1 (start N vs) H _ I hq) ?_ ?_
  · rintro fl s' hs
    cases fl with
    | next =>
      obtain ⟨σ', H', J, q⟩ := hs
      exact ⟨V.non, H', J.os, J.bare, J.base, J.hok, rfl, q⟩
    | ret u =>
      obtain ⟨v, σ', H', J, rv, q⟩ := hs
      exact ⟨v, H', J.os, J.bare, J.base, J.hok, rv, q⟩
    | brk =>
      obtain ⟨_, _, _, q⟩ := hs
      exact q.elim
    | cont =>
      obtain ⟨_, _, _, q⟩ := hs
      exact q.elim
  · exact fun e s' hs => hs
end
section
variable {X : Cx} {k : Nat} {x : Str} {f : Addr} {fd : FuncData} {ps : List Str} {sp : Sp} {E : XK} {e : Expr} {es : List Expr} {t : TA} {p pos : Pos}
theorem run_fnG {pins : List (Addr × Obj)} {σ : L2.St} {H : Hp} {s : Shared} {Q : VK} {us : List Value} {vs : List V}
    (F : FnG X.prog X.w X.K X.mg X.base k f fd ps sp) (gd : X.A.guards = some []) (hr : Room k X.A)
    (hb : Binds X.K fd ps []) (hx : Passes (L2.CX X.prog X.w) X E) (I : Inv X pins σ H s) (r : Vals vs us)
    (h : sp vs H Q E) : wpAny (model X.prog X.w) X.A (call (.ref f) us) (EP X pins σ Q) X.xe s := by
  have hl : us.length = ps.length := by
    rw [← r.length]
    exact F.len _ _ _ _ h
  have hb' := hb s us I.kIn (by rw [List.append_nil]; exact hl)
  rw [List.append_nil] at hb'
  refine wpAny_call (codeAny_mono (F.run X.A X.stack s H ⟨us, []⟩ us vs Q E gd hr I.env0 hb' r h) ?_)
  rintro (e | fl) s' hq
  · exact hx pins σ H s e s' I hq
  · cases fl with
    | ret u => exact I.after hq
    | next => exact hq.elim
    | brk => exact hq.elim
    | cont => exact hq.elim
/-- the def called x keeps sp where no repr runs -/
structure PrG (P : Program) (w : World) (K : PySem.W.Frag) (mg : Str → Option Value) (base : Heap)
    (k : Nat) (x : Str) (ps : List Str) (sp : Sp) : Prop where
  ex : ∃ (f : Addr) (fd : FuncData), mg x = some (.ref f) ∧ PySem.W.keepIn K (.ref f) = true ∧ Binds K fd ps [] ∧
    FnG P w K mg base k f fd ps sp
theorem pe_callG (C : PrG X.prog X.w X.K X.mg X.base k x ps sp) (gd : X.A.guards = some []) (hr : Room k X.A) (hg : Gl X x)
    (hx : Passes (L2.CX X.prog X.w) X E) (ha : PA X (e :: es) t) (hdb : (x == ("__debug__" : Str)) = false := by decide)
    (he : starEach (e :: es) X.env = (false, eval e X.env) :: starEach es X.env := by rfl)
    (hpl : (backTo pos (starEach es X.env)).any (·.1) = false := by rfl) :
    PE X (.Call (.Name x p) (e :: es) [] pos) (tCall sp [] E t) := by
  obtain ⟨f, fd, g, kp, b, F⟩ := C.ex
  constructor
  intro pins s σ H Q I h
  refine wpAny_Call_Name_kw (ld_glob I hg g ?_ hdb)
  refine PySem.W.callWith_K (h₀ := X.base) I.ok.mod.kin kp (thn (ha.run pos pins s σ H _ I h) ?_) he hpl
  rintro us s1 ⟨vs, H1, I1, r, q⟩
  rw [List.append_nil] at q
  exact ⟨I1.kIn, run_fnG F gd hr b hx I1 r q⟩
end
theorem Dx.prG {P : Program} {w : World} {K : PySem.W.Frag} {mg : Str → Option Value} {base : Heap} {x : Str} {st : Stmt} {N ps : List Str} {k : Nat} {sp : Sp}
    (D : Dx K mg x st ps) (S : FnScope N ps (defScope st)) (len : ∀ vs H Q E, sp vs H Q E → vs.length = ps.length)
    (body : ∀ (f : Addr) (cdv : Value) (A : Around) (out : List Env) (s : Shared) (H : Hp) (vs : List V) (Q : VK) (E : XK), A.guards = some [] →
      Room k (A.deeper (envOfC x (defScope st) s.heap.objs.size f cdv)) → sp vs H Q E →
      ∃ t, PSs (cxOf (L2.CX P w) P w K mg base N x (defScope st) f cdv A out s H E) (defBody st) t ∧
        t { nx := fun _ H' => Q .non H', rt := Q } (start N vs) H) : PrG P w K mg base (k + 1) x ps sp := by
  obtain ⟨f, fd, g, b, F⟩ := D.ex
  exact ⟨f, fd, g, F.kp, b, fun_okG F S len fun cdv A out s H vs Q E hg hr h => body f cdv A out s H vs Q E hg hr h⟩

/-! ### the head, for a law that calls repr -/
section
variable {P : Program} {w : World} {K : PySem.W.Frag} {mg mb : Str → Option Value} {k : Nat} {fa a : Addr} {fd : FuncData} {x : Str} {sp : Sp} {s : Shared} {vs : List Value} {ns : List Int}
/-- what is asked of the call -/
def Told (P : Program) (w : World) (fa a : Addr) (s : Shared) : Prop :=
  codeAny (model P w) callerA (.call (.ref fa) ⟨[.ref a], []⟩)
    (fun r s' => r = .ok (.ret (.bool true)) ∧ OldK s.heap s'.heap ∧ s'.os = s.os ∧ AllBare s'.gens) s
theorem told_core (KX : K.In s.heap) (hns : s.heap.Ns mainGlobals mg) (hb : s.heap.Ns builtinsNs mb)
    (hbb : ∀ y : Str, y ≠ "__name__" → mb y = bootBuiltins y) (hlim : s.heap.NoLimit) (hg : s.gens = #[])
    (ha : s.heap.get? a = some { cls := .type "list", data := .seq vs.toArray }) (hr : Room k callerA)
    (F : ∀ base : Heap, K.In base → base.Ns mainGlobals mg → FnG P w K mg base k fa fd [x] sp)
    (hbind : ∀ (t : Shared) (u : Value), BindsTo t fd ⟨[u], []⟩ [(x, u)]) {H : Hp} (hO : Only H)
    (hs : sp [.ref a] H (fun v _ => v = .bl true) fun _ _ _ => False) (hok : HOk P w H s.heap)
    (hA : ∀ b, H b ≠ none → b = a) (hK : H a ≠ none → K.lookup a = none) : Told P w fa a s := by
  have hid : ∀ {b : Addr} {o : Obj}, s.heap.get? b = some o → b ≠ a → (hidT s.heap H).get? b = some o := fun {b o} e n =>
    hidT_get e (Classical.byContradiction fun z => n (hA b z))
  have notA : ∀ {b : Addr} {o : Obj} {es : Array DictEntry} {ep : Nat}, s.heap.get? b = some o → o.data = .dict es ep → b ≠ a := by
    intro b o es ep e d z
    rw [z, ha] at e
    cases e
    cases (show Data.seq vs.toArray _ = Data.dict es ep from d)
  have ns1 : ∀ {b : Addr} {m : Str → Option Value}, s.heap.Ns b m → (hidT s.heap H).Ns b m := by
    rintro b m ⟨o, es, ep, e, d, r⟩
    exact ⟨o, es, ep, hid e (notA e d), d, r⟩
  have kb : K.In (hidT s.heap H) := by
    intro b o e
    refine hidT_get (KX b o e) (Classical.byContradiction fun z => ?_)
    have eb := hA b z
    subst eb
    rw [hK z] at e
    cases e
  have md : Mod K mg (hidT s.heap H) := by
    obtain ⟨mc, h1, h2⟩ := hlim
    exact ⟨kb, ns1 hns, ⟨mb, ns1 hb, hbb⟩, ⟨mc, ns1 h1, h2⟩⟩
  have none_in : ∀ b : Addr, b ∉ frs ([] : List Env) := fun b z => absurd (show b ∈ ([] : List Addr) from z) (by simp)
  have e0 : Env0 P w K mg (hidT s.heap H) callerA [] s H :=
    ⟨rfl, md, fun b o z => of_hidT z, Nat.le_of_eq (hidT_size _ _), trivial, fun b z => absurd z (none_in b), hok, .of_eq hg⟩
  have run := (F _ kb (ns1 hns)).run callerA [] s H ⟨[.ref a], []⟩ [.ref a] [.ref a] _ _ rfl hr e0 (hbind s (.ref a)) (.cons rfl .nil) hs
  refine codeAny_mono run ?_
  rintro (e | fl) s' q
  · obtain ⟨_, _, _, _, _, _, _, _, _, _, _, _, z⟩ := q
    exact z.elim
  · cases fl with
    | next => exact q.elim
    | brk => exact q.elim
    | cont => exact q.elim
    | ret u =>
      obtain ⟨v, H', os, bare, un, hok', rv, ev⟩ := q
      obtain rfl : v = .bl true := ev
      obtain rfl : u = Value.bool true := rv
      refine ⟨rfl, OldK.of_keep fun b o e => ?_, os, bare⟩
      rcases hO b with z | ⟨ob, xs, z⟩
      · exact un.keep b o e z (none_in b) (by simp)
      · obtain ⟨e1, _⟩ := hok b _ z
        obtain ⟨e2, _⟩ := hok' b _ (un.frzs b ob _ z)
        rw [e] at e1
        cases e1
        exact e2
theorem told (KX : K.In s.heap) (hns : s.heap.Ns mainGlobals mg) (hb : s.heap.Ns builtinsNs mb)
    (hbb : ∀ y : Str, y ≠ "__name__" → mb y = bootBuiltins y) (hlim : s.heap.NoLimit) (hg : s.gens = #[])
    (ha : s.heap.get? a = some { cls := .type "list", data := .seq vs.toArray }) (hi : IntsAre vs ns) (hl : ns.length ≤ sizeLine)
    (hr : Room k callerA) (F : ∀ base : Heap, K.In base → base.Ns mainGlobals mg → FnG P w K mg base k fa fd [x] sp)
    (hbind : ∀ (t : Shared) (u : Value), BindsTo t fd ⟨[u], []⟩ [(x, u)])
    (hsp : ∀ H : Hp, Only H → SqL K H a (ns.map V.int) → sp [.ref a] H (fun v _ => v = .bl true) fun _ _ _ => False) :
    Told P w fa a s := by
  have rv := vals_ints hi
  cases hk : K.lookup a with
  | some o =>
    have e := KX a o hk
    rw [ha] at e
    cases e
    have hO : Only fun _ => none := fun _ => .inl rfl
    refine told_core KX hns hb hbb hlim hg ha hr F hbind hO (hsp _ hO (.inr ⟨_, vs.toArray, _, hk, rfl, rfl, rfl, ?_, by simpa using rv⟩)) ?_ (fun b z => absurd rfl z) fun z => absurd rfl z
    · rw [List.size_toArray, hi.length]
      exact hl
    · intro b u z
      cases (show (none : Option HO) = some u from z)
  | none =>
    let H0 : Hp := fun _ => none
    let ob : HO := .frz { cls := .type "list", data := .seq vs.toArray } (.lst (ns.map V.int))
    have hO : Only (upd H0 a ob) := fun b => by
      by_cases hb : b = a
      · rw [hb]
        exact .inr ⟨_, _, upd_same⟩
      · exact .inl (upd_ne hb)
    refine told_core KX hns hb hbb hlim hg ha hr F hbind hO (hsp _ hO (.inl (.inr ⟨_, upd_same⟩))) ?_ ?_ fun _ => hk
    · intro b u z
      by_cases hb : b = a
      · subst hb
        rw [upd_same] at z
        cases z
        exact ⟨ha, by rw [List.length_map]; exact hl, vs, _, rv, ha⟩
      · rw [upd_ne hb] at z
        cases z
    · intro b z
      by_cases hb : b = a
      · exact hb
      · exact absurd (upd_ne hb) z
end
theorem walk_ofG {l : PySem.W.OpenLaw} {n k : Nat} {q : Program} {loose : List Str} {XP : (Str → Option Value) → Heap → Prop} {YP : World → Heap → Prop} {d : DefRec}
    {K : Params → PySem.W.Frag} {sp : World → Sp} {x : Str} (hn : l.most = some n) (hn2 : n ≤ sizeLine) (hdf : d.params.defaults = []) (hr : Room k callerA)
    (hY : ∀ (w : World) (h : Heap), YP w h → (K w.params).In h)
    (F : ∀ (w : World) (mg : Str → Option Value) (fa : Addr) (h : Heap), (K w.params).In h → h.Ns mainGlobals mg → mg d.name = some (.ref fa) →
      ∃ fd : FuncData, (∀ (s : Shared) (u : Value), BindsTo s fd ⟨[u], []⟩ [(x, u)]) ∧
        ∀ base : Heap, (K w.params).In base → base.Ns mainGlobals mg → FnG l.prog w (K w.params) mg base k fa fd [x] (sp w))
    (hsp : ∀ (w : World) (H : Hp) (a : Addr) (ns : List Int), ns.length ≤ n → (∀ z ∈ ns, Builtin.Int.intBits z ≤ 1048576) → Only H → SqL (K w.params) H a (ns.map V.int) →
      sp w [.ref a] H (fun v _ => v = .bl true) fun _ _ _ => False) :
    PySem.W.WalkO q loose XP YP l.row.toRowW d [] (fun f vs => PySem.call f vs) := by
  refine Att.attach_callB hn hdf ?_
  intro w s₀ s₁ mg mb fa o pm cd doc a vs ns G Y ho hd hcd hmg hobj hints hlen hbits hg
  have KX := hY w _ Y
  obtain ⟨fd, hb, hF⟩ := F w mg fa _ KX G.T.g hmg
  exact told KX G.T.g G.T.b G.T.builtins G.T.nolimit hg hobj hints (Nat.le_trans hlen hn2) hr hF hb fun H hO hS => hsp w H a ns hlen hbits hO hS
end Fd

set_option maxRecDepth 100000
set_option maxHeartbeats 2000000
namespace Fd
open PySem PySem.Spec PyProof.Rows L2

/-! ### things that are equal by their build, or one and the same -/
def plainV : V → Bool
  | .non | .bl _ | .int _ | .str _ | .ref _ | .ty _ => true
  | _ => false
def Al (H : Hp) : Nat → V → V → Prop
  | 0, x, y => x = y ∧ plainV x = true
  | n + 1, x, y => (x = y ∧ plainV x = true) ∨ ∃ (a b : Addr) (xs ys : List V), x = .ref a ∧ y = .ref b ∧
      ((H a = some (.lst xs) ∧ H b = some (.lst ys)) ∨ (H a = some (.tup xs) ∧ H b = some (.tup ys))) ∧
      xs.length = ys.length ∧ ∀ (i : Nat) (u v : V), xs[i]? = some u → ys[i]? = some v → Al H n u v
/-- two lists or two tuples, item by item -/
def Al2 (H : Hp) (n : Nat) (x y : V) : Prop := ∃ (a b : Addr) (xs ys : List V), x = .ref a ∧ y = .ref b ∧
  ((H a = some (.lst xs) ∧ H b = some (.lst ys)) ∨ (H a = some (.tup xs) ∧ H b = some (.tup ys))) ∧
  xs.length = ys.length ∧ ∀ (i : Nat) (u v : V), xs[i]? = some u → ys[i]? = some v → Al H n u v
theorem Al.same {H : Hp} {n : Nat} {x : V} (h : plainV x = true) : Al H n x x := by
  cases n with
  | zero => exact ⟨rfl, h⟩
  | succ n => exact .inl ⟨rfl, h⟩
theorem Al.both {H : Hp} {n : Nat} {x y : V} (h : Al2 H n x y) : Al H (n + 1) x y := .inr h
theorem Al2.lst {H : Hp} {n : Nat} {a b : Addr} {xs ys : List V} (ha : H a = some (.lst xs)) (hb : H b = some (.lst ys)) (hl : xs.length = ys.length)
    (h : ∀ (i : Nat) (u v : V), xs[i]? = some u → ys[i]? = some v → Al H n u v) : Al2 H n (.ref a) (.ref b) := ⟨a, b, xs, ys, rfl, rfl, .inl ⟨ha, hb⟩, hl, h⟩
theorem Al2.tup {H : Hp} {n : Nat} {a b : Addr} {xs ys : List V} (ha : H a = some (.tup xs)) (hb : H b = some (.tup ys)) (hl : xs.length = ys.length)
    (h : ∀ (i : Nat) (u v : V), xs[i]? = some u → ys[i]? = some v → Al H n u v) : Al2 H n (.ref a) (.ref b) := ⟨a, b, xs, ys, rfl, rfl, .inr ⟨ha, hb⟩, hl, h⟩
/-- the same plain items -/
theorem al_eq {H : Hp} {n : Nat} {xs : List V} (h : ∀ x ∈ xs, plainV x = true) : ∀ (i : Nat) (u v : V), xs[i]? = some u → xs[i]? = some v → Al H n u v := fun i u v e1 e2 => by
  rw [e1] at e2
  cases e2
  exact .same (h _ (List.mem_of_getElem? e1))
section
variable {P : Program} {w : World} {H : Hp} {s : Shared}
theorem plain_eqAt {A : Around} {x : V} {u v : Value} (h : plainV x = true) (ru : RelV x u) (rv : RelV x v) : SeqAt.EqAt A s u v true := by
  cases x with
  | non =>
    obtain rfl : u = Value.none := ru
    obtain rfl : v = Value.none := rv
    exact .same _
  | bl b =>
    obtain rfl : u = Value.bool b := ru
    obtain rfl : v = Value.bool b := rv
    exact .same _
  | int i =>
    obtain ⟨t, rfl⟩ : ∃ t, u = Value.int i t := ru
    obtain ⟨t', rfl⟩ : ∃ t, v = Value.int i t := rv
    have z := SeqAt.EqAt.int_int (A := A) (s := s) i t i t'
    rwa [beq_self_eq_true] at z
  | str y =>
    obtain ⟨t, rfl⟩ : ∃ t, u = Value.str y t := ru
    obtain ⟨t', rfl⟩ : ∃ t, v = Value.str y t := rv
    have z := SeqAt.EqAt.str_str (A := A) (s := s) y t y t'
    rwa [beq_self_eq_true] at z
  | ref a =>
    obtain rfl : u = Value.ref a := ru
    obtain rfl : v = Value.ref a := rv
    exact .same _
  | ty n =>
    obtain rfl : u = Value.type n := ru
    obtain rfl : v = Value.type n := rv
    exact .same _
  | byt b => cases h
  | flt b => cases h
theorem all_true (n : Nat) : (List.range n).all (fun _ => true) = true := by
  rw [List.all_eq_true]
  exact fun _ _ => rfl
/-- where two objects lie -/
theorem al2_at (hok : HOk P w H s.heap) {a b : Addr} {xs ys : List V} (h : (H a = some (.lst xs) ∧ H b = some (.lst ys)) ∨ (H a = some (.tup xs) ∧ H b = some (.tup ys))) :
    ∃ us vs : List Value, Vals xs us ∧ Vals ys vs ∧ ((s.heap.IsList a us.toArray ∧ s.heap.IsList b vs.toArray) ∨ (s.heap.IsTuple a us.toArray ∧ s.heap.IsTuple b vs.toArray)) := by
  rcases h with ⟨h1, h2⟩ | ⟨h1, h2⟩
  · have z1 : ObjOk P w H s.heap a (.lst xs) := hok a _ h1
    have z2 : ObjOk P w H s.heap b (.lst ys) := hok b _ h2
    obtain ⟨_, us, n, r1, g1⟩ := z1
    obtain ⟨_, vs, m, r2, g2⟩ := z2
    exact ⟨us, vs, r1, r2, .inl ⟨⟨_, g1, rfl, _, rfl⟩, ⟨_, g2, rfl, _, rfl⟩⟩⟩
  · have z1 : ObjOk P w H s.heap a (.tup xs) := hok a _ h1
    have z2 : ObjOk P w H s.heap b (.tup ys) := hok b _ h2
    obtain ⟨_, us, r1, g1⟩ := z1
    obtain ⟨_, vs, r2, g2⟩ := z2
    exact ⟨us, vs, r1, r2, .inr ⟨g1, g2⟩⟩
theorem vals_at : ∀ {xs : List V} {us : List Value} {j : Nat} (r : Vals xs us) (h : j < us.length), ∃ x, xs[j]? = some x ∧ RelV x us[j]
  | _, _, 0, .cons r _, _ => ⟨_, rfl, r⟩
  | _, _, j + 1, .cons _ r, h => by
    obtain ⟨x, e, q⟩ := vals_at (j := j) r (Nat.lt_of_succ_lt_succ h)
    exact ⟨x, e, q⟩
mutual
theorem Al.eqAt (hok : HOk P w H s.heap) : ∀ (n : Nat) (A : Around) (x y : V) (u v : Value), Al H n x y → RelV x u → RelV y v → A.units + n < cLine → SeqAt.EqAt A s u v true
  | 0, A, x, y, u, v, h, ru, rv, _ => by
    obtain ⟨rfl, p⟩ := h
    exact plain_eqAt p ru rv
  | n + 1, A, x, y, u, v, h, ru, rv, hu => by
    rcases h with ⟨rfl, p⟩ | h
    · exact plain_eqAt p ru rv
    · have e := Al.rcAt hok n A x y u v h ru rv hu
      obtain ⟨a, b, xs, ys, rfl, rfl, _⟩ := h
      obtain rfl : u = Value.ref a := ru
      obtain rfl : v = Value.ref b := rv
      by_cases hab : a = b
      · subst hab
        exact .same _
      · exact .of_refs hab e
theorem Al.rcAt (hok : HOk P w H s.heap) : ∀ (n : Nat) (A : Around) (x y : V) (u v : Value), Al2 H n x y → RelV x u → RelV y v → A.units + (n + 1) < cLine → SeqAt.RcAt A s u v true
  | n, A, x, y, u, v, h, ru, rv, hu => by
    obtain ⟨a, b, xs, ys, rfl, rfl, h, hl, q⟩ := h
    obtain rfl : u = Value.ref a := ru
    obtain rfl : v = Value.ref b := rv
    obtain ⟨us, vs, r1, r2, g⟩ := al2_at hok h
    have hsz : us.toArray.size = vs.toArray.size := by
      rw [List.size_toArray, List.size_toArray, ← r1.length, ← r2.length]
      exact hl
    have item : ∀ j (h1 : j < us.toArray.size) (h2 : j < vs.toArray.size), SeqAt.EqAt A.in1 s us.toArray[j] vs.toArray[j] ((fun _ => true) j) := fun j h1 h2 => by
      obtain ⟨x, e1, q1⟩ := vals_at r1 (j := j) (by simpa using h1)
      obtain ⟨y, e2, q2⟩ := vals_at r2 (j := j) (by simpa using h2)
      have z := Al.eqAt hok n A.in1 x y _ _ (q j x y e1 e2) q1 q2 (by show A.units + 1 + n < cLine; omega)
      simpa using z
    rcases g with ⟨g1, g2⟩ | ⟨g1, g2⟩
    · have z := SeqAt.RcAt.lists g1 g2 hsz (by omega) item
      rwa [all_true] at z
    · have z := SeqAt.RcAt.tuples g1 g2 (by omega) item
      rw [all_true, hsz] at z
      simpa using z
end
theorem Al.rcNe (hok : HOk P w H s.heap) {n : Nat} {A : Around} {x y : V} {u v : Value} (h : Al2 H n x y) (ru : RelV x u) (rv : RelV y v) (hu : A.units + (n + 1) < cLine) : SeqAt.RcNeAt A s u v false := by
  obtain ⟨a, b, xs, ys, rfl, rfl, h, hl, q⟩ := h
  obtain rfl : u = Value.ref a := ru
  obtain rfl : v = Value.ref b := rv
  obtain ⟨us, vs, r1, r2, g⟩ := al2_at hok h
  have hsz : us.toArray.size = vs.toArray.size := by
    rw [List.size_toArray, List.size_toArray, ← r1.length, ← r2.length]
    exact hl
  have item : ∀ j (h1 : j < us.toArray.size) (h2 : j < vs.toArray.size), SeqAt.EqAt A.in1 s us.toArray[j] vs.toArray[j] ((fun _ => true) j) := fun j h1 h2 => by
    obtain ⟨x, e1, q1⟩ := vals_at r1 (j := j) (by simpa using h1)
    obtain ⟨y, e2, q2⟩ := vals_at r2 (j := j) (by simpa using h2)
    have z := Al.eqAt hok n A.in1 x y _ _ (q j x y e1 e2) q1 q2 (by show A.units + 1 + n < cLine; omega)
    simpa using z
  rcases g with ⟨g1, g2⟩ | ⟨g1, g2⟩
  · have z := SeqAt.RcNeAt.lists g1 g2 hsz (by omega) item
    rwa [all_true] at z
  · have z := SeqAt.RcNeAt.tuples g1 g2 (by omega) item
    rw [all_true, hsz] at z
    simpa using z
end
/-- x == y, x != y of such -/
def rEqL : R2 := fun x y H Q => (∃ n, n ≤ 60 ∧ Al2 H n x y) ∧ Q (.bl true) H
def rNeL : R2 := fun x y H Q => (∃ n, n ≤ 60 ∧ Al2 H n x y) ∧ Q (.bl false) H
theorem op_eqL {X : Cx} (hu : X.A.units + 64 < cLine) : OpR X (compareOp .Eq) rEqL := by
  rintro pins s σ H x y v u Q I rx ry ⟨⟨n, hn, h⟩, q⟩
  exact Al.rcAt I.hok n X.A x y v u h rx ry (by omega) X.prog X.w X.xe _ ⟨.bl true, H, I, rfl, q⟩
theorem op_neL {X : Cx} (hu : X.A.units + 64 < cLine) : OpR X (compareOp .NotEq) rNeL := by
  rintro pins s σ H x y v u Q I rx ry ⟨⟨n, hn, h⟩, q⟩
  exact Al.rcNe I.hok h rx ry (by omega) X.prog X.w X.xe _ ⟨.bl false, H, I, rfl, q⟩

/-! ### errors that are caught -/
structure Ec (K : PySem.W.Frag) (C : Addr) : Prop where
  x : XfC K C
  cl : (PySem.W.clsIn K C).isSome = true
  ha : PySem.W.findIn K (.ref C) "__class__" = some (some (.builtin "object.__class__"))
  hn : PySem.W.specialIn K (.builtin "object.__class__") "__get__" = some (some (.builtin "getset_descriptor.__get__"))
  ht : PySem.W.takesIn K (.builtin "object.__class__") = some true
  hm : PySem.W.mroIn K C (.type "object") = some true
  v : PySem.W.findIn K (.ref C) "value" = some none
theorem err_at {X : Cx} {a C dd : Addr} {oe : Obj} {fs : List (Str × V)} {pn pins : List (Addr × Obj)} {σ : L2.St} {H : Hp} {s : Shared} (I : Inv (X.suite a ((a, oe) :: pn)) pins σ H s)
    (hz : Zc (.ref C) (some dd) oe) (hf : ∃ vs, oe.data = .fields vs) (hd : H dd = some (.xd fs)) :
    ∃ (od : Obj) (mA : Str → Option Value), PySem.W.InstAt s.heap a oe C (some od) ∧ (∀ f, RelO (fs.lookup f) (mA f)) ∧ ∀ f, PySem.W.lookIn f od = some (mA f) := by
  obtain ⟨vs, hv⟩ := hf
  have hx : ObjOk X.prog X.w H s.heap dd (.xd fs) := I.hok dd _ hd
  obtain ⟨mA, hns, hr⟩ := hx
  obtain ⟨od, ho, hl⟩ := lookIn_ns hns
  refine ⟨od, mA, ⟨(I.pin (a, oe) (List.mem_append_left _ List.mem_cons_self)).1, hz.1, ?_, ?_⟩, hr, hl⟩
  · unfold PySem.W.notCls
    rw [hv] <;> rfl
  · rw [hz.2]
    exact ho
/-- error.n -/
def tXfD (K : PySem.W.Frag) (a : Addr) (cls : Value) (d : Option Addr) (n : Str) (te : TE) : TE := fun σ H Q => te σ H fun x H1 =>
  x = .ref a ∧ ∃ (C dd : Addr) (fs : List (Str × V)) (v : V), cls = .ref C ∧ Ec K C ∧ PySem.W.findIn K (.ref C) n = some none ∧ d = some dd ∧ H1 dd = some (.xd fs) ∧ fs.lookup n = some v ∧ Q v H1
theorem pe_xfD {X : Cx} {a : Addr} {oe : Obj} {cls : Value} {d : Option Addr} {pn : List (Addr × Obj)} {e : Expr} {te : TE} {pos : Pos} {n : Str} (hz : Zc cls d oe) (hf : ∃ vs, oe.data = .fields vs)
    (he : PE (X.suite a ((a, oe) :: pn)) e te) (hb : attributeBase e n X.env (eval e X.env) = eval e X.env := by rfl) : PE (X.suite a ((a, oe) :: pn)) (.Attribute e n pos) (tXfD X.K a cls d n te) := by
  constructor
  intro pins s σ H Q I h
  refine attr_of hb (thn (he.run pins s σ H _ I h) ?_)
  rintro u s1 ⟨x, H1, I1, rx, ex, C, dd, fs, v, ec, T, hno, ed, ea, l, q⟩
  subst ex ec ed
  obtain rfl : u = Value.ref a := rx
  obtain ⟨od, mA, J, hr, hl⟩ := err_at I1 hz hf ea
  obtain ⟨u, hu, ru⟩ := RelO.some_of (v := v) (o := mA n) (by rw [← l]; exact hr n)
  exact HandSPX.exc_get I1.kIn J T.x.ga T.x.gg T.x.exC (PySem.W.findObj_own T.x.hdC hno rfl (by rw [hl, hu])) (handed_of ru) ⟨v, H1, I1.tok _, ru, q⟩
/-- isinstance(error, c) -/
def rIsD (K : PySem.W.Frag) (a : Addr) (cls : Value) (d : Option Addr) : List V → Hp → VK → Prop := fun xs H Q => ∃ (C dd : Addr) (fs : List (Str × V)) (c : V) (cv : Value) (b : Bool),
  cls = .ref C ∧ Ec K C ∧ d = some dd ∧ H dd = some (.xd fs) ∧ xs = [.ref a, c] ∧ ClsV c cv ∧ PySem.W.kitOne K (.ref C) cv = some b ∧ Q (.bl b) H
theorem call_isD {X : Cx} {a : Addr} {oe : Obj} {cls : Value} {d : Option Addr} {pn : List (Addr × Obj)} (hz : Zc cls d oe) (hf : ∃ vs, oe.data = .fields vs) :
    CallR (X.suite a ((a, oe) :: pn)) (.builtin "isinstance") (rIsD X.K a cls d) := by
  rintro pins s σ H xs us Q I r ⟨C, dd, fs, c, cv, b, ec, T, ed, ea, rfl, k, e, q⟩
  subst ec ed
  obtain ⟨u1, u2, rfl, r1, r2⟩ := vals2 r
  obtain rfl : u1 = Value.ref a := r1
  have e2 := k.eq r2
  subst e2
  obtain ⟨od, mA, J, hr, hl⟩ := err_at I hz hf ea
  exact PySem.W.kia_one (PySem.W.kitx_exc T.cl T.x.ga T.x.gg T.x.exC T.ha T.hn T.ht T.hm) I.kIn J e (fun z => nomatch z) fun tk => ⟨.bl b, H, I.tok tk, rfl, q⟩
/-- a call in a try's body -/
theorem pe_callT {X : Cx} {k : Nat} {x : Str} {ps : List Str} {sp : Sp} {W : WX} {e : Expr} {es : List Expr} {t : TA} {p pos : Pos} (C : Pr X.prog X.w X.K X.mg X.base k x ps sp) (hr : Room k X.A) (tk : L2.Takes X W) (hg : Gl X x)
    (ha : PA X (e :: es) t) (hdb : (x == ("__debug__" : Str)) = false := by decide)
    (he : starEach (e :: es) X.env = (false, eval e X.env) :: starEach es X.env := by rfl) (hpl : (backTo pos (starEach es X.env)).any (·.1) = false := by rfl) :
    PE X (.Call (.Name x p) (e :: es) [] pos) (tCallS sp (WE W) t) := by
  obtain ⟨f, fd, g, kp, b, F⟩ := C.ex
  exact pe_callS F hr hg g kp b (fun σ => passAt tk σ) ha hdb he hpl
end Fd

set_option maxRecDepth 100000
set_option maxHeartbeats 2000000
namespace Fd
open PySem PySem.Spec PyProof.Rows L2

/-- a method of a built-in type, told by K alone (in a suite) -/
theorem pe_bmK {X : Cx} (K : PySem.W.Frag) (eK : X.K = K) {T name id : String} {o e : Expr} {es : List Expr} {to : TE} {t : TA} {r : V → List V → Hp → VK → Prop} {apos cpos : Pos}
    (pa : PlainAttrs T) (slot : Slot T name id) (hty : typeOf (.builtin id) = pure (.type "method_descriptor")) (hm : MtR X id r) (ho : PE X o to) (ha : PA X (e :: es) t)
    (hbase : attributeBase o name X.env (eval o X.env) = eval o X.env := by rfl)
    (hfew : ((backTo cpos (starEach (e :: es) X.env)).all (fun x => !x.1) && (backToKw cpos (keywordEach [] X.env)).all (fun x => x.1.isSome) &&
      decide ((e :: es).length + ([] : List Keyword).length + (if ([] : List Keyword).isEmpty then 0 else 1) < 30)) = true := by rfl)
    (hline : (apos.endLine == cpos.line) = true := by rfl) (hs : starEach (e :: es) X.env = (false, eval e X.env) :: starEach es X.env := by rfl)
    (hplain : (backTo cpos (starEach es X.env)).any (·.1) = false := by rfl) : PE X (.Call (.Attribute o name apos) (e :: es) [] cpos) (tBM K T r to t) := by
  subst eK
  exact pe_bm pa slot hty hm ho ha hbase hfew hline hs hplain
/-! ### data that is short when it is written -/
structure Fn (d : PyData) (n k : Nat) : Prop where
  show' : d.showable = true
  len : d.shown.length ≤ n
  dep : d.depth ≤ k
theorem Fn.le {d : PyData} {n k n' k' : Nat} (h : Fn d n k) (h1 : n ≤ n') (h2 : k ≤ k') : Fn d n' k' := ⟨h.show', Nat.le_trans h.len h1, Nat.le_trans h.dep h2⟩
theorem Fn.non : Fn .none 4 0 := ⟨by rw [PyData.showable], by rw [PyData.shown]; decide, by rw [PyData.depth]; exact Nat.le_refl _⟩
theorem Fn.bl (b : Bool) : Fn (.bool b) 5 0 := ⟨by rw [PyData.showable], by rw [PyData.shown]; cases b <;> decide, by rw [PyData.depth]; exact Nat.le_refl _⟩
theorem Fn.int {i : Int} (h : i.natAbs < 10 ^ 45) : Fn (.int i) 46 0 := by
  refine ⟨?_, ?_, by rw [PyData.depth]; exact Nat.le_refl _⟩
  · rw [PyData.showable]
    refine decide_eq_true ?_
    by_cases z : i.natAbs = 0
    · rw [z]
      decide
    · exact (Nat.log2_lt z).mpr (Nat.lt_of_lt_of_le (Nat.lt_trans h (show (10 : Nat) ^ 45 < 2 ^ 150 by decide)) (Nat.pow_le_pow_right (by decide) (show 150 ≤ 1920 by decide)))
  · rw [PyData.shown]
    have e := int_text_length_le10 (k := 45) (by decide) h
    rw [PySem.ofString_length]
    omega
theorem Fn.str {x : Str} {n : Nat} (h : (reprText x).length ≤ n) : Fn (.str x) n 0 := ⟨by rw [PyData.showable], by rw [PyData.shown]; exact h, by rw [PyData.depth]; exact Nat.le_refl _⟩
theorem textFrom_le : ∀ (ts : List Str) (k : Nat) (acc : Str), (textFrom k acc ts).length ≤ acc.length + piled ts
  | [], _, acc => by show acc.length ≤ acc.length + 0; omega
  | t :: r, k, acc => by
    have ih := textFrom_le r (k + 1) (acc ++ (if k > 0 then ", " else "" : String) ++ t)
    have e : (acc ++ (if k > 0 then ", " else "" : String) ++ t).length ≤ acc.length + 2 + t.length := by
      rw [strLen_append, strLen_append]
      split
      · exact Nat.le_refl _
      · show acc.length + 0 + t.length ≤ _
        omega
    show (textFrom (k + 1) _ r).length ≤ _
    rw [piled_cons]
    omega
theorem piled_le {n : Nat} : ∀ (ts : List Str), (∀ t ∈ ts, t.length ≤ n) → piled ts ≤ ts.length * (n + 2)
  | [], _ => Nat.zero_le _
  | t :: r, h => by
    rw [piled_cons, List.length_cons, Nat.succ_mul]
    have h1 := h t List.mem_cons_self
    have h2 := piled_le r fun u hu => h u (List.mem_cons_of_mem _ hu)
    omega
theorem shownAll_map : ∀ ds : List PyData, PyData.shownAll ds = ds.map PyData.shown
  | [] => by rw [PyData.shownAll]; rfl
  | d :: ds => by rw [PyData.shownAll, shownAll_map ds]; rfl
theorem showableAll_of : ∀ ds : List PyData, (∀ d ∈ ds, d.showable = true) → PyData.showableAll ds = true
  | [], _ => by rw [PyData.showableAll]
  | d :: ds, h => by
    rw [PyData.showableAll, h d List.mem_cons_self, showableAll_of ds fun e he => h e (List.mem_cons_of_mem _ he)]
    rfl
theorem depthAll_of {k : Nat} : ∀ ds : List PyData, (∀ d ∈ ds, d.depth ≤ k) → PyData.depthAll ds ≤ k
  | [], _ => by rw [PyData.depthAll]; exact Nat.zero_le _
  | d :: ds, h => by
    rw [PyData.depthAll]
    exact Nat.max_le.mpr ⟨h d List.mem_cons_self, depthAll_of ds fun e he => h e (List.mem_cons_of_mem _ he)⟩
theorem all_piled {n k : Nat} {ds : List PyData} (h : ∀ d ∈ ds, Fn d n k) : piled (PyData.shownAll ds) ≤ ds.length * (n + 2) := by
  have z := piled_le (n := n) (PyData.shownAll ds) fun t ht => by
    rw [shownAll_map] at ht
    obtain ⟨d, hd, rfl⟩ := List.mem_map.mp ht
    exact (h d hd).len
  rwa [shownAll_map, List.length_map, ← shownAll_map] at z
theorem Fn.lst {n k : Nat} {ds : List PyData} (h : ∀ d ∈ ds, Fn d n k) : Fn (.list ds) (2 + ds.length * (n + 2)) (k + 1) := by
  refine ⟨?_, ?_, ?_⟩
  · rw [PyData.showable]
    exact showableAll_of ds fun d hd => (h d hd).show'
  · rw [PyData.shown]
    have z := textFrom_le (PyData.shownAll ds) 0 "["
    have e : (listText (PyData.shownAll ds)).length = (textFrom 0 "[" (PyData.shownAll ds)).length + 1 := by
      show (textFrom 0 "[" _ ++ "]").length = _
      rw [strLen_append]
      rfl
    have e1 : ("[" : Str).length = 1 := rfl
    have e2 := all_piled h
    omega
  · rw [PyData.depth]
    exact Nat.succ_le_succ (depthAll_of ds fun d hd => (h d hd).dep)
theorem Fn.tup {n k : Nat} {ds : List PyData} (h : ∀ d ∈ ds, Fn d n k) : Fn (.tuple ds) (3 + ds.length * (n + 2)) (k + 1) := by
  refine ⟨?_, ?_, ?_⟩
  · rw [PyData.showable]
    exact showableAll_of ds fun d hd => (h d hd).show'
  · rw [PyData.shown]
    have e2 := all_piled h
    generalize PyData.shownAll ds = ts at e2
    have e3 : (Str.join ", " ts).length ≤ piled ts := by
      cases ts with
      | nil => exact Nat.le_refl _
      | cons t r =>
        have z := join_length_add (t :: r) (by simp)
        omega
    unfold tupleText
    rw [strLen_append, strLen_append]
    have e4 : ("(" : Str).length = 1 := rfl
    have e5 : (Str.ofString (if ts.length == 1 then ",)" else ")" : String)).length ≤ 2 := by split <;> decide
    omega
  · rw [PyData.depth]
    exact Nat.succ_le_succ (depthAll_of ds fun d hd => (h d hd).dep)
theorem Fn.dic : Fn (.dict []) 2 1 := ⟨by rw [PyData.showable, PyData.showableKv], by rw [PyData.shown, PyData.shownKv]; decide, by rw [PyData.depth, PyData.depthKv]; exact Nat.le_refl _⟩
theorem Fn.ints {ns : List Int} (h : ∀ z ∈ ns, z.natAbs < 10 ^ 45) : ∀ d ∈ ns.map PyData.int, Fn d 46 0 := fun d hd => by
  obtain ⟨z, hz, rfl⟩ := List.mem_map.mp hd
  exact .int (h z hz)
theorem Sgn.small {ns : List Int} (h : Sgn ns) : ∀ z ∈ ns, z.natAbs < 10 ^ 45 := fun z hz => by
  have q := h z hz
  have e : (10 : Nat) ^ 45 = 1000000000000000000000000000000000000000000000 := by decide
  omega
theorem nat45 {i : Int} (h0 : -1000000000 ≤ i) (h1 : i ≤ 100000000000000000000) : i.natAbs < 10 ^ 45 := by
  have e : (10 : Nat) ^ 45 = 1000000000000000000000000000000000000000000000 := by decide
  omega

/-! ### data that lies off the tape -/
def off (t : Addr) (H : Hp) : Hp := fun b => if b = t then none else H b
theorem off_ne {t b : Addr} {H : Hp} (h : b ≠ t) : off t H b = H b := if_neg h
theorem off_on {t : Addr} {H : Hp} : off t H t = none := if_pos rfl
theorem off_le {t : Addr} {H : Hp} : Same (off t H) H := fun b o e => by
  by_cases h : b = t
  · rw [h, off_on] at e
    cases e
  · rwa [off_ne h] at e
theorem off_of {t b : Addr} {H : Hp} {o : HO} (h : b ≠ t) (e : H b = some o) : off t H b = some o := by rw [off_ne h, e]
theorem Same.off {t : Addr} {H H' : Hp} (s : Same H H') : Same (Fd.off t H) (Fd.off t H') := fun b o e => by
  by_cases h : b = t
  · rw [h, off_on] at e
    cases e
  · rw [off_ne h] at e ⊢
    exact s b o e
theorem Go.off {t c : Addr} {H H' : Hp} (g : Go t c H H') : Same (Fd.off t H) (Fd.off t H') := fun b o e => by
  by_cases h : b = t
  · rw [h, off_on] at e
    cases e
  · rw [off_ne h] at e ⊢
    exact g.keep b o h e
theorem Da.on {K : PySem.W.Frag} {t : Addr} {H : Hp} {v : V} {d : PyData} (h : Da K (Fd.off t H) v d) : Da K H v d := h.keep off_le d v
theorem Da.go {K : PySem.W.Frag} {t c : Addr} {H H' : Hp} {v : V} {d : PyData} (h : Da K (Fd.off t H) v d) (g : Go t c H H') : Da K (Fd.off t H') v d := h.keep g.off d v
theorem Da.go' {K : PySem.W.Frag} {t : Addr} {H H' : Hp} {v : V} {d : PyData} (h : Da K (Fd.off t H) v d) (s : Same H H') : Da K (Fd.off t H') v d := h.keep (Same.off s) d v
theorem DaAll.go {K : PySem.W.Frag} {t c : Addr} {H H' : Hp} {vs : List V} {ds : List PyData} (h : DaAll K (Fd.off t H) vs ds) (g : Go t c H H') : DaAll K (Fd.off t H') vs ds := h.keep g.off ds vs
theorem Da.plain {K : PySem.W.Frag} {H : Hp} {v : V} {d : PyData} (h : Da K H v d) : plainV v = true := by cases h <;> rfl
theorem DaAll.set {K : PySem.W.Frag} {H : Hp} : ∀ {vs : List V} {ds : List PyData} (i : Nat) {v : V} {d : PyData}, DaAll K H vs ds → Da K H v d → DaAll K H (vs.set i v) (ds.set i d)
  | _, _, _, _, _, .nil, _ => .nil
  | _, _, 0, _, _, .cons _ h2, h => .cons h h2
  | _, _, i + 1, _, _, .cons h1 h2, h => .cons h1 (DaAll.set i h2 h)
theorem ixN_nat {n j : Nat} (h : j < n) : ixN n (j : Int) = some j := by
  unfold ixN
  rw [if_pos (Int.natCast_nonneg j), if_pos (by omega)]
  rfl
/-- what stands in H' and did not stand in H -/
def newer (H H' : Hp) : Hp := fun b => match H b with | none => H' b | some _ => none
theorem newer_le {H H' : Hp} : Same (newer H H') H' := fun b o e => by
  unfold newer at e
  split at e
  · exact e
  · cases e
theorem newer_of {H H' : Hp} {b : Addr} {o : HO} (n : H b = none) (e : H' b = some o) : newer H H' b = some o := by
  unfold newer
  rw [n]
  exact e
theorem newer_none {H H' : Hp} {b : Addr} {o : HO} (e : newer H H' b = some o) : H b = none := by
  unfold newer at e
  split at e
  · assumption
  · cases e
theorem newer_off {t : Addr} {H H' : Hp} (h : H t ≠ none) : Same (newer H H') (off t H') := fun b o e => by
  have n := newer_none e
  rw [off_ne fun z => h (by rw [← z]; exact n)]
  exact newer_le b o e
theorem newer_upd {H H' : Hp} {a : Addr} {x : HO} (h : H a ≠ none) : Same (newer H H') (newer H (upd H' a x)) := fun b o e => by
  have n := newer_none e
  refine newer_of n ?_
  rw [upd_ne fun z => h (by rw [← z]; exact n)]
  exact newer_le b o e
theorem Go.free {t c : Addr} {H H' : Hp} (g : Go t c H H') {p : Addr} (n : H' p = none) : H p = none := by
  cases e : H p with
  | none => rfl
  | some o =>
    have pt : p ≠ t := fun z => by
      obtain ⟨T, e1, _⟩ := g.tape
      rw [z, e1] at n
      cases n
    rw [g.keep p o pt e] at n
    cases n
theorem TapeAt.ne {H : Hp} {t c : Addr} (h : TapeAt H t c) : H t ≠ none := fun z => by
  obtain ⟨T, e1, _⟩ := h
  rw [z] at e1
  cases e1
/-- what the laws hand in that is none -/
def Odd (d : PyData) : Prop := Fn d 500 2 ∧ (dItems d).length ≤ 2
def spOdd (K : PySem.W.Frag) : Sp := fun vs H Q _ => ∃ t c : Addr, vs = [.ref t] ∧ TapeAt H t c ∧ ∀ v d H', Odd d → Da K (newer H H') v d → Go t c H H' → Q v H'
theorem odd_ints {ns : List Int} (h : ∀ z ∈ ns, z.natAbs < 10 ^ 45) (hl : ns.length ≤ 2) : Odd (.list (ns.map PyData.int)) ∧ Odd (.tuple (ns.map PyData.int)) := by
  have e : (ns.map PyData.int).length ≤ 2 := by rw [List.length_map]; exact hl
  have m : (ns.map PyData.int).length * (46 + 2) ≤ 2 * 48 := Nat.mul_le_mul_right _ e
  exact ⟨⟨(Fn.lst (Fn.ints h)).le (by omega) (by decide), e⟩, ⟨(Fn.tup (Fn.ints h)).le (by omega) (by decide), e⟩⟩
end Fd

set_option maxRecDepth 100000
set_option maxHeartbeats 4000000
namespace My
open PySem PySem.Spec PyProof.Rows L2 Fd
def top (i : Nat) : Stmt := PySem.Challenge.pw_trulymade_k00_forms_and_scraps.main.body.getD i (.Pass ⟨0, 0, 0, 0⟩)
abbrev s_is_whole : Stmt := top 8
theorem sc_is_whole : FnScope ["value"] ["value"] (defScope s_is_whole) := ⟨rfl, rfl, rfl, by decide +kernel, rfl, by decide +kernel, by decide +kernel⟩
abbrev s_is_form : Stmt := top 9
theorem sc_is_form : FnScope ["value"] ["value"] (defScope s_is_form) := ⟨rfl, rfl, rfl, by decide +kernel, rfl, by decide +kernel, by decide +kernel⟩
abbrev s_is_row : Stmt := top 10
theorem sc_is_row : FnScope ["value", "sign"] ["value"] (defScope s_is_row) := ⟨rfl, rfl, rfl, by decide +kernel, rfl, by decide +kernel, by decide +kernel⟩
abbrev s_shifted : Stmt := top 11
theorem sc_shifted : FnScope ["row", "by", "sign"] ["row", "by"] (defScope s_shifted) := ⟨rfl, rfl, rfl, by decide +kernel, rfl, by decide +kernel, by decide +kernel⟩
abbrev s_is_thing : Stmt := top 12
theorem sc_is_thing : FnScope ["row"] ["row"] (defScope s_is_thing) := ⟨rfl, rfl, rfl, by decide +kernel, rfl, by decide +kernel, by decide +kernel⟩
abbrev s_form_of : Stmt := top 13
theorem sc_form_of : FnScope ["thing"] ["thing"] (defScope s_form_of) := ⟨rfl, rfl, rfl, by decide +kernel, rfl, by decide +kernel, by decide +kernel⟩
abbrev s_number_of : Stmt := top 14
theorem sc_number_of : FnScope ["thing"] ["thing"] (defScope s_number_of) := ⟨rfl, rfl, rfl, by decide +kernel, rfl, by decide +kernel, by decide +kernel⟩
abbrev s_body_of : Stmt := top 15
theorem sc_body_of : FnScope ["thing", "form"] ["thing"] (defScope s_body_of) := ⟨rfl, rfl, rfl, by decide +kernel, rfl, by decide +kernel, by decide +kernel⟩
abbrev s_law_tape : Stmt := top 17
theorem sc_law_tape : FnScope ["script"] ["script"] (defScope s_law_tape) := ⟨rfl, rfl, rfl, by decide +kernel, rfl, by decide +kernel, by decide +kernel⟩
abbrev s_law_pick : Stmt := top 18
theorem sc_law_pick : FnScope ["tape", "size", "digit", "cell", "mixed"] ["tape", "size"] (defScope s_law_pick) := ⟨rfl, rfl, rfl, by decide +kernel, rfl, by decide +kernel, by decide +kernel⟩
abbrev s_law_sign : Stmt := top 19
theorem sc_law_sign : FnScope ["tape", "kind"] ["tape"] (defScope s_law_sign) := ⟨rfl, rfl, rfl, by decide +kernel, rfl, by decide +kernel, by decide +kernel⟩
abbrev s_law_signs : Stmt := top 20
theorem sc_law_signs : FnScope ["tape", "many", "row", "k"] ["tape", "many"] (defScope s_law_signs) := ⟨rfl, rfl, rfl, by decide +kernel, rfl, by decide +kernel, by decide +kernel⟩
abbrev s_law_odd : Stmt := top 21
theorem sc_law_odd : FnScope ["tape", "kind"] ["tape"] (defScope s_law_odd) := ⟨rfl, rfl, rfl, by decide +kernel, rfl, by decide +kernel, by decide +kernel⟩
abbrev s_law_is_row : Stmt := top 22
theorem sc_law_is_row : FnScope ["thing", "sign"] ["thing"] (defScope s_law_is_row) := ⟨rfl, rfl, rfl, by decide +kernel, rfl, by decide +kernel, by decide +kernel⟩
abbrev s_law_try_form : Stmt := top 23
theorem sc_law_try_form : FnScope ["thing", "error"] ["thing"] (defScope s_law_try_form) := ⟨rfl, rfl, rfl, by decide +kernel, rfl, by decide +kernel, by decide +kernel⟩
abbrev s_law_try_number : Stmt := top 24
theorem sc_law_try_number : FnScope ["thing", "error"] ["thing"] (defScope s_law_try_number) := ⟨rfl, rfl, rfl, by decide +kernel, rfl, by decide +kernel, by decide +kernel⟩
abbrev s_law_try_body : Stmt := top 25
theorem sc_law_try_body : FnScope ["thing", "error"] ["thing"] (defScope s_law_try_body) := ⟨rfl, rfl, rfl, by decide +kernel, rfl, by decide +kernel, by decide +kernel⟩
abbrev s_law_due : Stmt := top 26
theorem sc_law_due : FnScope ["thing", "what", "body", "k"] ["thing", "what"] (defScope s_law_due) := ⟨rfl, rfl, rfl, by decide +kernel, rfl, by decide +kernel, by decide +kernel⟩
abbrev s_law : Stmt := top 27
theorem sc_law : FnScope ["script", "tape", "spoil", "place", "row", "first", "thing", "bad", "kept", "good", "turn", "found", "wanted"] ["script"] (defScope s_law) := ⟨rfl, rfl, rfl, by decide +kernel, rfl, by decide +kernel, by decide +kernel⟩

theorem dThing_row {d : PyData} (er : dRow d = true) (hs : Sgn (dInts d)) (en : dItems d = (dInts d).map PyData.int) : dThing d = (match dInts d with | f :: _ :: _ => decide (f < 5) | _ => false) := by
  unfold dThing
  rw [er, Bool.true_and, en]
  cases e : dInts d with
  | nil => rfl
  | cons f r =>
    cases r with
    | nil => rfl
    | cons n r =>
      have h0 := hs f (by rw [e]; exact List.mem_cons_self)
      show (decide (2 ≤ ((n :: r).map PyData.int).length + 1) && (decide (0 ≤ f) && decide (f < 5))) = _
      rw [decide_eq_true h0.1, decide_eq_true (show 2 ≤ ((n :: r).map PyData.int).length + 1 by rw [List.length_map, List.length_cons]; omega)]
      rfl
def told1 (d : PyData) (what : Str) : PyData := if dThing d = true then (if what = "form" then .tuple [.str "told", .int (dFst d)] else if what = "number" then .tuple [.str "told", .int (dSnd d)] else .tuple [.str "told", .tuple ((dBody d).map PyData.int)]) else .tuple [.str "refused", d]
/-- what stands at p: the answer told of v, the data d -/
def Res (H : Hp) (p : Addr) (v : V) (d : PyData) (what : Str) : Prop :=
  (dThing d = false ∧ H p = some (.tup [.str "refused", v])) ∨ (dThing d = true ∧ what = "form" ∧ H p = some (.tup [.str "told", .int (dFst d)])) ∨ (dThing d = true ∧ what = "number" ∧ H p = some (.tup [.str "told", .int (dSnd d)])) ∨
  (dThing d = true ∧ what = "body" ∧ ∃ b, H p = some (.tup [.str "told", .ref b]) ∧ H b = some (.tup ((dBody d).map V.int)))
theorem Res.keep {H H' : Hp} (s : Same H H') {p : Addr} {v : V} {d : PyData} {what : Str} (r : Res H p v d what) : Res H' p v d what := by
  rcases r with ⟨h, e⟩ | ⟨h, w, e⟩ | ⟨h, w, e⟩ | ⟨h, w, b, e, e2⟩
  · exact .inl ⟨h, s _ _ e⟩
  · exact .inr (.inl ⟨h, w, s _ _ e⟩)
  · exact .inr (.inr (.inl ⟨h, w, s _ _ e⟩))
  · exact .inr (.inr (.inr ⟨h, w, b, s _ _ e, s _ _ e2⟩))
theorem Res.fst {H : Hp} {p : Addr} {v : V} {d : PyData} {what : Str} (r : Res H p v d what) : ∃ z, H p = some (.tup (.str (if dThing d = true then "told" else "refused") :: z)) := by
  rcases r with ⟨h, e⟩ | ⟨h, w, e⟩ | ⟨h, w, e⟩ | ⟨h, w, b, e, e2⟩
  · rw [h]
    exact ⟨_, e⟩
  · rw [h]
    exact ⟨_, e⟩
  · rw [h]
    exact ⟨_, e⟩
  · rw [h]
    exact ⟨_, e⟩
theorem Res.da {K : PySem.W.Frag} {H : Hp} {p : Addr} {v : V} {d : PyData} {what : Str} (hd : Da K H v d) (r : Res H p v d what) : Da K H (.ref p) (told1 d what) := by
  unfold told1
  rcases r with ⟨h, e⟩ | ⟨h, w, e⟩ | ⟨h, w, e⟩ | ⟨h, w, b, e, e2⟩
  · rw [if_neg (by rw [h]; decide)]
    exact .tup e (.cons (.str _) (.cons hd .nil))
  · subst w
    rw [if_pos h, if_pos rfl]
    exact .tup e (.cons (.str _) (.cons (.int _) .nil))
  · subst w
    rw [if_pos h, if_neg (by decide +kernel), if_pos rfl]
    exact .tup e (.cons (.str _) (.cons (.int _) .nil))
  · subst w
    rw [if_pos h, if_neg (by decide +kernel), if_neg (by decide +kernel)]
    exact .tup e (.cons (.str _) (.cons (.tup e2 (.ints _)) .nil))
theorem al_two {H : Hp} {n : Nat} {p q : Addr} {a : V} {x y : V} (e1 : H p = some (.tup [a, x])) (e2 : H q = some (.tup [a, y])) (ha : plainV a = true) (h : Al H n x y) : Al H (n + 1) (.ref p) (.ref q) := by
  refine .both (.tup e1 e2 rfl fun i u v h1 h2 => ?_)
  match i, h1, h2 with
  | 0, h1, h2 =>
    cases h1
    cases h2
    exact .same ha
  | 1, h1, h2 =>
    cases h1
    cases h2
    exact h
theorem Res.al {H : Hp} {p q : Addr} {v : V} {d : PyData} {what : Str} (hv : plainV v = true) (r1 : Res H p v d what) (r2 : Res H q v d what) : Al H 2 (.ref p) (.ref q) := by
  have fn : ("form" : Str) ≠ "number" := by decide +kernel
  have fb : ("form" : Str) ≠ "body" := by decide +kernel
  have nb : ("number" : Str) ≠ "body" := by decide +kernel
  rcases r1 with ⟨h, e⟩ | ⟨h, w, e⟩ | ⟨h, w, e⟩ | ⟨h, w, b, e, e2⟩ <;> rcases r2 with ⟨h', e'⟩ | ⟨h', w', e'⟩ | ⟨h', w', e'⟩ | ⟨h', w', b', e', e2'⟩ <;>
    first
      | exact al_two e e' rfl (.same hv)
      | exact al_two e e' rfl (.same rfl)
      | exact al_two e e' rfl (.both (.tup e2 e2' rfl (al_eq fun x hx => by obtain ⟨z, _, rfl⟩ := List.mem_map.mp hx; rfl)))
      | exact absurd (h.symm.trans h') (by decide)
      | (rw [w] at w'; first | exact absurd w' fn | exact absurd w' fb | exact absurd w' nb | exact absurd w'.symm fn | exact absurd w'.symm fb | exact absurd w'.symm nb)
theorem told1_fn {K : PySem.W.Frag} {H : Hp} {v : V} {d : PyData} (hd : Da K H v d) (hf : Fn d 5000 3) (hl : (dItems d).length ≤ 10) (what : Str) : Fn (told1 d what) 10010 4 := by
  have pair : ∀ {x : Str} {e : PyData}, (reprText x).length ≤ 5000 → Fn e 5000 3 → Fn (.tuple [.str x, e]) 10010 4 := fun {x e} hx he =>
    (Fn.tup (n := 5000) (k := 3) fun z hz => by
      rcases List.mem_cons.mp hz with r | hz
      · rw [r]
        exact (Fn.str hx).le (Nat.le_refl _) (by decide)
      · rw [List.mem_singleton.mp hz]
        exact he).le (show 3 + 2 * (5000 + 2) ≤ 10010 by decide) (by decide)
  have tl : (reprText "told").length ≤ 5000 := by decide +kernel
  unfold told1
  by_cases h : dThing d = true
  · rw [if_pos h]
    obtain ⟨er, fo, nu, r, ed, _⟩ := thing_parts h
    obtain ⟨a, b, rfl, hb, hs, en, _⟩ := hd.row er
    have g : ∀ i : Nat, ((dInts d).getD i 0).natAbs < 10 ^ 45 := fun i => by
      by_cases c : i < (dInts d).length
      · have e : (dInts d).getD i 0 = (dInts d)[i] := by simp [c]
        rw [e]
        exact hs.small _ (List.getElem_mem c)
      · have e : (dInts d).getD i 0 = 0 := by simp [Nat.le_of_not_lt c]
        rw [e]
        decide
    split
    · exact pair tl ((Fn.int (g 0)).le (by decide) (by decide))
    · split
      · exact pair tl ((Fn.int (g 1)).le (by decide) (by decide))
      · refine pair tl ((Fn.tup (Fn.ints (Sgn.small (Sgn.shift _ _)))).le ?_ (by decide))
        have z : (dBody d).length ≤ 10 := by
          unfold dBody shiftI
          rw [List.length_map, List.length_drop, dInts_len]
          omega
        have z2 : ((dBody d).map PyData.int).length * (46 + 2) ≤ 10 * 48 := Nat.mul_le_mul_right _ (by rw [List.length_map]; exact z)
        have z3 : 3 + ((dBody d).map PyData.int).length * (46 + 2) ≤ 5000 := by omega
        exact z3
  · rw [if_neg h]
    exact pair (by decide +kernel) hf
def spDue (K : PySem.W.Frag) : Sp := fun vs H Q _ => ∃ (v : V) (d : PyData) (what : Str), vs = [v, .str what] ∧ Da K H v d ∧ (dItems d).length ≤ 1000 ∧ (what = "form" ∨ what = "number" ∨ what = "body") ∧ ∀ p H', Same H H' → Res H' p v d what → Q (.ref p) H'
def spTry (K : PySem.W.Frag) (what : Str) : Sp := fun vs H Q _ => ∃ (v : V) (d : PyData), vs = [v] ∧ Da K H v d ∧ (dItems d).length ≤ 1000 ∧ ∀ p H', Same H H' → Res H' p v d what → Q (.ref p) H'

structure Tx (K : PySem.W.Frag) (mg : Str → Option Value) (fI c_MadeError c_BadRow c_BadThing : Addr) : Prop where
  n : Nms mg
  c_SIGNS : ∃ t, mg "SIGNS" = some (.int 100 t)
  c_FORMS : ∃ t, mg "FORMS" = some (.int 5 t)
  c_SHIFT : ∃ t, mg "SHIFT" = some (.int 20 t)
  x_MadeError : Ex K mg "MadeError" c_MadeError fI
  x_BadRow : Ex K mg "BadRow" c_BadRow fI
  x_BadThing : Ex K mg "BadThing" c_BadThing fI
  e_BadThing : Ec K c_BadThing
  m_BadThing : PySem.W.exmOne K (.ref c_BadThing) (.ref c_BadThing) = some true
  k_BadRow : PySem.W.kitOne K (.ref c_BadThing) (.ref c_BadRow) = some false
  k_MadeError : PySem.W.kitOne K (.ref c_BadThing) (.ref c_MadeError) = some true
  k_ValueError : PySem.W.kitOne K (.ref c_BadThing) (.type "ValueError") = some true
section
variable {P : Program} {w : World} {K : PySem.W.Frag} {mg : Str → Option Value} {base : Heap} {fI c_MadeError c_BadRow c_BadThing : Addr}
theorem ok_is_whole (T : Tx K mg fI c_MadeError c_BadRow c_BadThing) (D : Dx K mg "is_whole" s_is_whole ["value"]) : Pr P w K mg base 1 "is_whole" ["value"] (spD K dWhole) := by
  refine D.pr sc_is_whole (fun vs H Q E h => ?_) (fun f cdv A outer s H vs Q E hr h => ⟨_,
      (pss_one (ps_ret (pe_and (pe_callB call_isi (by rfl) T.n.n_isinstance (by decide +kernel) (pa_cons (pv 0) (pa_cons (pe_ty "int" T.n.n_int) pa_nil))) (pe_one (pe_not (pe_callB call_isi (by rfl) T.n.n_isinstance (by decide +kernel) (pa_cons (pv 0) (pa_cons (pe_ty "bool" T.n.n_bool) pa_nil)))))))), ?_⟩)
  · obtain ⟨v, d, rfl, _⟩ := h
    rfl
  obtain ⟨v, d, rfl, hd, q⟩ := h
  refine ⟨_, rfl, _, _, _, _, _, rfl, .ty "int", hd.ty, is_int d, _, rfl, ?_⟩
  cases e : dInt d with
  | false =>
    have ew : dWhole d = false := by cases d <;> first | rfl | cases e
    exact iteF (by have z := q H (.refl H); rw [ew] at z; exact z)
  | true =>
    refine iteT ⟨_, rfl, _, _, _, _, _, rfl, .ty "bool", hd.ty, is_bool d, _, rfl, ?_⟩
    have ew : dWhole d = !dBool d := by cases d <;> first | rfl | cases e
    have z := q H (.refl H)
    rw [ew] at z
    exact z

theorem ok_is_form (T : Tx K mg fI c_MadeError c_BadRow c_BadThing) (D : Dx K mg "is_form" s_is_form ["value"]) (C_is_whole : Pr P w K mg base 1 "is_whole" ["value"] (spD K dWhole)) : Pr P w K mg base 2 "is_form" ["value"] (spD K dForm) := by
  refine D.pr sc_is_form (fun vs H Q E h => ?_) (fun f cdv A outer s H vs Q E hr h => ⟨_,
      (pss_one (ps_ret (pe_and (pe_callP C_is_whole (hr.mono (by decide)) (by rfl) (passes_call (takes_of rfl rfl rfl rfl) fun _ _ _ _ z => z) (pa_cons (pv 0) pa_nil)) (pe_one (pe_chain op_le op_lt pe_int (pv 0) (pe_cst T.c_FORMS)))))), ?_⟩)
  · obtain ⟨v, d, rfl, _⟩ := h
    rfl
  obtain ⟨v, d, rfl, hd, q⟩ := h
  refine ⟨_, rfl, _, d, rfl, hd, fun H1 s1 => ⟨_, rfl, ?_⟩⟩
  cases d with
  | int i =>
    cases hd
    refine iteT ⟨_, rfl, _, _, rfl, rfl, _, rfl, ?_⟩
    have z := q H1 s1
    by_cases c : (0 : Int) ≤ i
    · rw [decide_eq_true c]
      refine iteT ⟨_, _, rfl, rfl, ?_⟩
      have e : dForm (.int i) = decide (i < 5) := by
        show (decide (0 ≤ i) && decide (i < 5)) = _
        rw [decide_eq_true c, Bool.true_and]
      rw [e] at z
      exact z
    · rw [decide_eq_false c]
      refine iteF ?_
      have e : dForm (.int i) = false := by
        show (decide (0 ≤ i) && decide (i < 5)) = _
        rw [decide_eq_false c, Bool.false_and]
      rw [e] at z
      exact z
  | _ => exact iteF (q H1 s1)

theorem ok_is_row (T : Tx K mg fI c_MadeError c_BadRow c_BadThing) (D : Dx K mg "is_row" s_is_row ["value"]) : Pr P w K mg base 3 "is_row" ["value"] (spD K dRow) := by
  refine D.pr sc_is_row (fun vs H Q E h => ?_) (fun f cdv A outer s H vs Q E hr h => ⟨_,
      (pss_cons (ps_if (pt_not (pt_val (pe_callB call_isiT (by rfl) T.n.n_isinstance (by decide +kernel) (pa_cons (pv 0) (pa_cons (pe_tup (pa_cons (pe_ty "list" T.n.n_list) (pa_cons (pe_ty "tuple" T.n.n_tuple) pa_nil))) pa_nil)))))
        (pss_one (ps_ret pe_bl))
        pss_nil)
      (pss_cons (ps_for (passes_of rfl) rfl (pi_seq (pv 0)) (pg_name (i := 1) sc_is_row.nd rfl (Or.inl rfl))
        (pss_one (ps_if (PW.pt (pw_or (pt_not (pt_val (pe_callB call_isi (by rfl) T.n.n_isinstance (by decide +kernel) (pa_cons (pv 1) (pa_cons (pe_ty "int" T.n.n_int) pa_nil))))) (pw_or (pt_val (pe_callB call_isi (by rfl) T.n.n_isinstance (by decide +kernel) (pa_cons (pv 1) (pa_cons (pe_ty "bool" T.n.n_bool) pa_nil)))) (pw_or1 (pt_not (pt_chain op_le op_lt pe_int (pv 1) (pe_cst T.c_SIGNS)))))))
          (pss_one (ps_ret pe_bl))
          pss_nil)))
      (pss_one (ps_ret pe_bl)))), ?_⟩)
  · obtain ⟨v, d, rfl, _⟩ := h
    rfl
  obtain ⟨v, d, rfl, hd, q⟩ := h
  refine ⟨_, rfl, by show 2 ≤ sizeLine; decide, fun p np => ?_⟩
  have sp1 : Same H (upd H p (.tup [.ty "list", .ty "tuple"])) := same_new np
  refine ⟨_, p, _, _, _, _, rfl, upd_same, .cons (.ty "list") (.cons (.ty "tuple") .nil), (hd.keep sp1).ty, is_seq d, _, rfl, ?_⟩
  generalize upd H p (.tup [.ty "list", .ty "tuple"]) = H1 at sp1 ⊢
  cases e : dSeq d with
  | false =>
    refine iteT ?_
    have ew : dRow d = false := by unfold dRow; rw [e]; rfl
    have z := q H1 sp1
    rw [ew] at z
    exact z
  | true =>
    refine iteF ?_
    obtain ⟨a, xs, b, rfl, ha, hb, _⟩ := hd.seq e
    refine ⟨_, rfl, for_seq (xs := xs) b (fun i σ H' => ∃ y, σ = [some (.ref a), y] ∧ Same H H' ∧ ∀ j x, j < i → (dItems d)[j]? = some x → dSign x = true) ⟨none, rfl, sp1, fun j x hj => absurd hj (Nat.not_lt_zero _)⟩ (fun i σ H' _ ⟨_, _, s', _⟩ => hb.keep s') ?_ ?_⟩
    · rintro i x σ H' hx ⟨y, rfl, s', hs⟩
      obtain ⟨dx, e1, hdx⟩ := ha.get hx
      have tx := (hdx.keep s').ty
      have yes : dSign dx = true → ∃ y, [some (V.ref a), some x] = [some (V.ref a), y] ∧ Same H H' ∧ ∀ j z, j < i + 1 → (dItems d)[j]? = some z → dSign z = true := fun ed => ⟨_, rfl, s', fun j z hj ez => by
        by_cases c : j = i
        · rw [c, e1] at ez
          cases ez
          exact ed
        · exact hs j z (by omega) ez⟩
      have no : dSign dx = false → Q (.bl false) H' := fun ed => by
        have ew : dRow d = false := by unfold dRow; rw [e, not_all e1 ed]; rfl
        have z := q H' s'
        rw [ew] at z
        exact z
      refine ⟨_, rfl, _, _, _, _, _, rfl, .ty "int", tx, is_int dx, _, rfl, ?_⟩
      cases dx with
      | bool b => exact iteF ⟨_, rfl, _, _, _, _, _, rfl, .ty "bool", tx, is_bool (.bool b), _, rfl, iteT (no rfl)⟩
      | int k =>
        cases hdx
        refine iteF ⟨_, rfl, _, _, _, _, _, rfl, .ty "bool", tx, is_bool (.int k), _, rfl, ?_⟩
        refine iteF ⟨_, rfl, _, _, rfl, rfl, _, rfl, ?_⟩
        by_cases c : (0 : Int) ≤ k
        · rw [decide_eq_true c]
          refine iteT ⟨_, _, rfl, rfl, _, rfl, ?_⟩
          by_cases c2 : k < 100
          · rw [decide_eq_true c2]
            refine iteF (yes ?_)
            show (decide (0 ≤ k) && decide (k < 100)) = true
            rw [decide_eq_true c, decide_eq_true c2]
            rfl
          · rw [decide_eq_false c2]
            refine iteT (no ?_)
            show (decide (0 ≤ k) && decide (k < 100)) = false
            rw [decide_eq_false c2, Bool.and_false]
        · rw [decide_eq_false c]
          refine iteF ⟨_, rfl, iteT (no ?_)⟩
          show (decide (0 ≤ k) && decide (k < 100)) = false
          rw [decide_eq_false c, Bool.false_and]
      | _ => exact iteT (no rfl)
    · rintro σ H' ⟨y, rfl, s', hs⟩
      have ew : dRow d = true := by
        unfold dRow
        rw [e, Bool.true_and]
        exact all_at fun i x ex => hs i x (by rw [ha.len]; exact (List.getElem?_eq_some_iff.mp ex).1) ex
      have z := q H' s'
      rw [ew] at z
      exact z

theorem ok_shifted (T : Tx K mg fI c_MadeError c_BadRow c_BadThing) (D : Dx K mg "shifted" s_shifted ["row", "by"]) : Pr P w K mg base 1 "shifted" ["row", "by"] (spShifted K) := by
  refine D.pr sc_shifted (fun vs H Q E h => ?_) (fun f cdv A outer s H vs Q E hr h => ⟨_,
      (pss_one (ps_ret (pe_callTy call_tuple_of (by rfl) T.n.n_tuple (by decide +kernel) (pa_cons (pe_lc (own := [("sign", 2)]) (g := gName 2) (tt := tYes) rfl sc_shifted.nd (pi_seq (pv 0)) (blkOk_by (N := ["row", "by", "sign"]) (sc := defScope s_shifted) (by decide +kernel)) (fun _ _ _ _ _ => pg_name (i := 2) sc_shifted.nd rfl (Or.inl rfl)) (fun _ _ _ _ _ => pts_nil) (fun _ _ _ _ _ => (pe_op op_mod (pe_op op_add (pv 2) (pv 1)) (pe_cst T.c_SIGNS)))) pa_nil)))), ?_⟩)
  · obtain ⟨a, ns, b, by_, rfl, _⟩ := h
    rfl
  obtain ⟨a, ns, b, by_, rfl, hb, hl, q⟩ := h
  refine st_ret1 (cb1 (lc_seq (a := a) (xs := ns.map V.int) (go_var rfl) b hb (fun _ => rfl) fun D nD => ⟨fun i H' => Same H H' ∧ H' D = some (.lst ((shiftI by_ (ns.take i)).map V.int)), ⟨same_new nD, upd_same⟩, fun i H' _ h => hb.keep h.1, ?_, ?_⟩))
  · rintro i x H' hx ⟨s', hD⟩
    rw [List.getElem?_map] at hx
    cases hn : ns[i]? with
    | none => rw [hn] at hx; cases hx
    | some z =>
      rw [hn] at hx
      cases hx
      refine ⟨_, rfl, _, rfl, _, _, rfl, rfl, _, _, rfl, rfl, (show (0 : Int) < 100 by decide), _, hD, ?_, ?_⟩
      · have hle : ((shiftI by_ (ns.take i)).map V.int).length ≤ 1000000 := by
          unfold shiftI
          rw [List.length_map, List.length_map, List.length_take]
          omega
        exact Nat.lt_of_le_of_lt hle (by decide)
      · refine ⟨same_mut s' nD, ?_⟩
        rw [upd_same, List.take_add_one, hn]
        unfold shiftI
        rw [List.map_append, List.map_append]
        rfl
  · rintro H' ⟨s', hD⟩
    rw [List.length_map, List.take_length] at hD
    exact ⟨D, _, rfl, .inl ⟨SqL.of hD, fun p np => q p _ (s'.trans (same_new np)) upd_same⟩⟩

theorem ok_is_thing (T : Tx K mg fI c_MadeError c_BadRow c_BadThing) (D : Dx K mg "is_thing" s_is_thing ["row"]) (C_is_row : Pr P w K mg base 3 "is_row" ["value"] (spD K dRow)) (C_is_form : Pr P w K mg base 2 "is_form" ["value"] (spD K dForm)) : Pr P w K mg base 4 "is_thing" ["row"] (spD K dThing) := by
  refine D.pr sc_is_thing (fun vs H Q E h => ?_) (fun f cdv A outer s H vs Q E hr h => ⟨_,
      (pss_one (ps_ret (pe_and (pe_callP C_is_row (hr.mono (by decide)) (by rfl) (passes_call (takes_of rfl rfl rfl rfl) fun _ _ _ _ z => z) (pa_cons (pv 0) pa_nil)) (pe_and (pe_cmpR op_ge (pe_callB call_len (by rfl) T.n.n_len (by decide +kernel) (pa_cons (pv 0) pa_nil)) pe_int (nomark _)) (pe_one (pe_callP C_is_form (hr.mono (by decide)) (by rfl) (passes_call (takes_of rfl rfl rfl rfl) fun _ _ _ _ z => z) (pa_cons (pe_ix ix_seq (pv 0) pe_int (fun _ _ => rfl)) pa_nil))))))), ?_⟩)
  · obtain ⟨v, d, rfl, _⟩ := h
    rfl
  obtain ⟨v, d, rfl, hd, q⟩ := h
  refine ⟨_, rfl, _, d, rfl, hd, fun H1 s1 => ⟨_, rfl, ?_⟩⟩
  cases er : dRow d with
  | false =>
    have ew : dThing d = false := by unfold dThing; rw [er]; rfl
    have z := q H1 s1
    rw [ew] at z
    exact iteF z
  | true =>
    have es : dSeq d = true := (Bool.and_eq_true_iff.mp er).1
    obtain ⟨a, xs, b, rfl, ha, hb, _⟩ := hd.seq es
    have hb1 : SqB K H1 a xs b := hb.keep s1
    refine iteT ⟨_, rfl, _, xs.length, rfl, ?_, _, _, rfl, rfl, _, rfl, ?_⟩
    · cases b with
      | true => exact .inl ⟨xs, hb1, rfl⟩
      | false => exact .inr ⟨xs, hb1, rfl⟩
    have hlen := ha.len
    by_cases c : 2 ≤ xs.length
    · rw [decide_eq_true (show (2 : Int) ≤ (xs.length : Int) by omega)]
      obtain ⟨x, xr, rfl⟩ : ∃ x xr, xs = x :: xr := by
        cases xs with
        | nil => cases c
        | cons x xr => exact ⟨x, xr, rfl⟩
      obtain ⟨y, ey, hy⟩ := ha.get (i := 0) (v := x) rfl
      have ix : rIx K (.ref a) (.int 0) H1 (fun v H2 => spD K dForm [v] H2 Q E) := by
        have at0 : atI (x :: xr) (0 : Int) = some x := atI_nat (j := 0) rfl
        have go : spD K dForm [x] H1 Q E := ⟨x, y, rfl, hy.keep s1, fun H2 s2 => by
          have z := q H2 (s1.trans s2)
          have ew : dThing d = dForm y := by
            unfold dThing
            rw [er, Bool.true_and]
            cases ed : dItems d with
            | nil => rw [ed] at ey; cases ey
            | cons d0 dr =>
              rw [ed] at ey hlen
              cases ey
              rw [decide_eq_true (show 2 ≤ (y :: dr).length by rw [← hlen]; exact c), Bool.true_and]
          rw [ew] at z
          exact z⟩
        cases b with
        | true => exact .inl ⟨a, _, _, x, rfl, rfl, hb1, at0, go⟩
        | false => exact .inr (.inl ⟨a, _, _, x, rfl, rfl, hb1, at0, go⟩)
      exact iteT ⟨_, rfl, ix⟩
    · rw [decide_eq_false (show ¬ (2 : Int) ≤ (xs.length : Int) by omega)]
      have ew : dThing d = false := by
        unfold dThing
        rw [← hlen, decide_eq_false c, Bool.false_and, Bool.and_false]
      have z := q H1 s1
      rw [ew] at z
      exact iteF z

theorem ok_form_of (T : Tx K mg fI c_MadeError c_BadRow c_BadThing) (D : Dx K mg "form_of" s_form_of ["thing"]) (C_is_thing : Pr P w K mg base 4 "is_thing" ["row"] (spD K dThing)) (C_init : InitOk P w K mg base 1 fI) : Pr P w K mg base 5 "form_of" ["thing"] (spThing1 K c_BadThing dFst) := by
  refine D.pr sc_form_of (fun vs H Q E h => ?_) (fun f cdv A outer s H vs Q E hr h => ⟨_,
      (pss_cons (ps_if (pt_not (pt_val (pe_callP C_is_thing (hr.mono (by decide)) (by rfl) (passes_call (takes_of rfl rfl rfl rfl) fun _ _ _ _ z => z) (pa_cons (pv 0) pa_nil))))
        (pss_one (ps_raise rfl (takes_of rfl rfl rfl rfl) (pmk_made T.x_BadThing C_init (hr.mono (by decide)) (passes_call (takes_of rfl rfl rfl rfl) fun _ _ _ _ z => z.elim) (by rfl) (pv 0))))
        pss_nil)
      (pss_one (ps_ret (pe_ix ix_seq (pv 0) pe_int (fun _ _ => rfl))))), ?_⟩)
  · unfold spThing1 at h
    obtain ⟨v, d, rfl, _⟩ := h
    rfl
  unfold spThing1 at h
  obtain ⟨v, d, rfl, hd, q, qe⟩ := h
  refine ⟨_, rfl, v, d, rfl, hd, fun H1 s1 => ⟨_, rfl, ?_⟩⟩
  cases e : dThing d with
  | false => exact iteT ⟨_, rfl, fun dd n => (qe e).new s1 n⟩
  | true =>
    refine iteF ?_
    obtain ⟨er, fo, nu, r, en, _⟩ := thing_parts e
    obtain ⟨a, b, rfl, hb, _⟩ := hd.row er
    rw [en] at hb
    have z := q e H1 s1
    have hb1 := hb.keep s1
    have ez : dFst d = fo := by unfold dFst; rw [en]; rfl
    rw [ez] at z
    cases b with
    | true => exact ⟨_, rfl, .inl ⟨a, _, _, _, rfl, rfl, hb1, atI_nat (j := 0) rfl, z⟩⟩
    | false => exact ⟨_, rfl, .inr (.inl ⟨a, _, _, _, rfl, rfl, hb1, atI_nat (j := 0) rfl, z⟩)⟩

theorem ok_number_of (T : Tx K mg fI c_MadeError c_BadRow c_BadThing) (D : Dx K mg "number_of" s_number_of ["thing"]) (C_is_thing : Pr P w K mg base 4 "is_thing" ["row"] (spD K dThing)) (C_init : InitOk P w K mg base 1 fI) : Pr P w K mg base 5 "number_of" ["thing"] (spThing1 K c_BadThing dSnd) := by
  refine D.pr sc_number_of (fun vs H Q E h => ?_) (fun f cdv A outer s H vs Q E hr h => ⟨_,
      (pss_cons (ps_if (pt_not (pt_val (pe_callP C_is_thing (hr.mono (by decide)) (by rfl) (passes_call (takes_of rfl rfl rfl rfl) fun _ _ _ _ z => z) (pa_cons (pv 0) pa_nil))))
        (pss_one (ps_raise rfl (takes_of rfl rfl rfl rfl) (pmk_made T.x_BadThing C_init (hr.mono (by decide)) (passes_call (takes_of rfl rfl rfl rfl) fun _ _ _ _ z => z.elim) (by rfl) (pv 0))))
        pss_nil)
      (pss_one (ps_ret (pe_ix ix_seq (pv 0) pe_int (fun _ _ => rfl))))), ?_⟩)
  · unfold spThing1 at h
    obtain ⟨v, d, rfl, _⟩ := h
    rfl
  unfold spThing1 at h
  obtain ⟨v, d, rfl, hd, q, qe⟩ := h
  refine ⟨_, rfl, v, d, rfl, hd, fun H1 s1 => ⟨_, rfl, ?_⟩⟩
  cases e : dThing d with
  | false => exact iteT ⟨_, rfl, fun dd n => (qe e).new s1 n⟩
  | true =>
    refine iteF ?_
    obtain ⟨er, fo, nu, r, en, _⟩ := thing_parts e
    obtain ⟨a, b, rfl, hb, _⟩ := hd.row er
    rw [en] at hb
    have z := q e H1 s1
    have hb1 := hb.keep s1
    have ez : dSnd d = nu := by unfold dSnd; rw [en]; rfl
    rw [ez] at z
    cases b with
    | true => exact ⟨_, rfl, .inl ⟨a, _, _, _, rfl, rfl, hb1, atI_nat (j := 1) rfl, z⟩⟩
    | false => exact ⟨_, rfl, .inr (.inl ⟨a, _, _, _, rfl, rfl, hb1, atI_nat (j := 1) rfl, z⟩)⟩

theorem ok_body_of (T : Tx K mg fI c_MadeError c_BadRow c_BadThing) (D : Dx K mg "body_of" s_body_of ["thing"]) (C_form_of : Pr P w K mg base 5 "form_of" ["thing"] (spThing1 K c_BadThing dFst)) (C_shifted : Pr P w K mg base 1 "shifted" ["row", "by"] (spShifted K)) : Pr P w K mg base 6 "body_of" ["thing"] (spBodyOf K c_BadThing) := by
  refine D.pr sc_body_of (fun vs H Q E h => ?_) (fun f cdv A outer s H vs Q E hr h => ⟨_,
      (pss_cons (ps_set (i := 1) sc_body_of.nd rfl (Or.inl rfl) (pe_callP C_form_of (hr.mono (by decide)) (by rfl) (passes_call (takes_of rfl rfl rfl rfl) fun _ _ _ _ z => z) (pa_cons (pv 0) pa_nil)))
      (pss_one (ps_ret (pe_callP C_shifted (hr.mono (by decide)) (by rfl) (passes_call (takes_of rfl rfl rfl rfl) fun _ _ _ _ z => z) (pa_cons (pe_slice sl_any (pv 0) (po_some pe_int) po_none) (pa_cons (pe_op op_mul (pe_un un_neg (pe_cst T.c_SHIFT)) (pv 1)) pa_nil)))))), ?_⟩)
  · unfold spBodyOf at h
    obtain ⟨v, d, rfl, _⟩ := h
    rfl
  unfold spBodyOf at h
  obtain ⟨v, d, rfl, hd, hl, q, qe⟩ := h
  refine ⟨_, rfl, spThing1_of hd (fun e H1 s1 => ?_) (fun e => qe e)⟩
  obtain ⟨er, fo, nu, r, en, _⟩ := thing_parts e
  obtain ⟨a, b, rfl, hb, _⟩ := hd.row er
  have hb1 := hb.keep s1
  have hlen : (dInts d).length ≤ 1000000 := by rw [dInts_len]; exact hl
  have ecut : cutV ((dInts d).map V.int) (some 2) none = ((dInts d).drop 2).map V.int := by
    unfold cutV
    rw [show HT.sIx ((dInts d).map V.int).length 0 (some 2) = min 2 ((dInts d).map V.int).length from HT.sIx_nat _ 0 2, HT.sIx_none, List.length_map, en]
    show List.take _ ((r.map V.int)) = r.map V.int
    apply List.take_of_length_le
    simp
  have fin : ∀ (p : Addr) (H2 : Hp), Same H1 H2 → SqB K H2 p (((dInts d).drop 2).map V.int) b → spShifted K [.ref p, .int (-20 * dFst d)] H2 Q E := fun p H2 s2 h2 =>
    ⟨p, (dInts d).drop 2, b, _, rfl, h2, by rw [List.length_drop]; omega, fun p' H3 s3 e3 => q e p' H3 ((s1.trans s2).trans s3) e3⟩
  refine ⟨_, rfl, 2, rfl, ?_⟩
  cases b with
  | true =>
    refine .inl ⟨a, _, rfl, hb1, fun p np => ?_⟩
    refine ⟨_, rfl, _, rfl, _, _, rfl, rfl, .inl (by decide), fin p _ (same_new np) ?_⟩
    exact SqL.of (by rw [upd_same, ecut])
  | false =>
    refine .inr ⟨a, _, rfl, hb1, fun ⟨z, _⟩ => ?_, fun _ p np => ?_⟩
    · rw [show HT.sIx ((dInts d).map V.int).length 0 (some 2) = min 2 ((dInts d).map V.int).length from HT.sIx_nat _ 0 2, List.length_map, en] at z
      simp at z
    · refine ⟨_, rfl, _, rfl, _, _, rfl, rfl, .inl (by decide), fin p _ (same_new np) ?_⟩
      exact SqT.of (by rw [upd_same, ecut])

theorem ok_law_tape (T : Tx K mg fI c_MadeError c_BadRow c_BadThing) (D : Dx K mg "_law_tape" s_law_tape ["script"]) : Pr P w K mg base 1 "_law_tape" ["script"] (spTape K) := by
  refine D.pr sc_law_tape (fun vs H Q E h => ?_) (fun f cdv A outer s H vs Q E hr h => ⟨_,
      (pss_one (ps_ret (pe_lst (pa_cons (pe_callTy call_list_of (by rfl) T.n.n_list (by decide +kernel) (pa_cons (pv 0) pa_nil)) (pa_cons pe_int (pa_cons pe_int (pa_cons pe_int (pa_cons pe_int pa_nil)))))))), ?_⟩)
  · obtain ⟨a, ns, rfl, _⟩ := h
    rfl
  obtain ⟨a, ns, rfl, hS, hl, q⟩ := h
  refine ⟨_, rfl, a, _, rfl, .inl hS, fun l nl => ⟨by show 5 ≤ sizeLine; decide, fun p np => ?_⟩⟩
  have nlp : l ≠ p := fun e => by
    rw [← e, upd_same] at np
    cases np
  have np' : H p = none := (same_new nl).free np
  refine q p l _ np' ((same_new nl).trans (same_new np)) ⟨_, upd_same, ns, 0, 0, 1, 0, rfl, ?_, by omega, by omega, by omega⟩
  rw [upd_ne nlp, upd_same]

theorem ok_law_pick (T : Tx K mg fI c_MadeError c_BadRow c_BadThing) (D : Dx K mg "_law_pick" s_law_pick ["tape", "size"]) : Pr P w K mg base 1 "_law_pick" ["tape", "size"] spPick := by
  refine D.pr sc_law_pick (fun vs H Q E h => ?_) (fun f cdv A outer s H vs Q E hr h => ⟨_,
      (pss_cons (ps_if (pt_cmpR op_gt (pe_ix ix_list (pv 0) pe_int (fun _ _ => rfl)) pe_int (nomark _))
        (pss_cons (ps_set (i := 2) sc_law_pick.nd rfl (Or.inl rfl) (pe_op op_mod (pe_callTy call_int1 (by rfl) T.n.n_int (by decide +kernel) (pa_cons (pe_ix ix_list (pv 0) pe_int (fun _ _ => rfl)) pa_nil)) (pv 1)))
        (pss_cons (ps_asg (pe_op op_fdivW (pe_ix ix_list (pv 0) pe_int (fun _ _ => rfl)) (pv 1)) (pg_sub (pv 0) pe_int set_list))
        (pss_one (ps_ret (pv 2)))))
        pss_nil)
      (pss_cons (ps_asg (pe_op op_add (pe_ix ix_list (pv 0) pe_int (fun _ _ => rfl)) pe_int) (pg_sub (pv 0) pe_int set_list))
      (pss_cons (ps_set (i := 3) sc_law_pick.nd rfl (Or.inl rfl) pe_int)
      (Evl.pss_cut (ps_if (pt_cmpR op_lt (pe_ix ix_list (pv 0) pe_int (fun _ _ => rfl)) (pe_callB call_len (by rfl) T.n.n_len (by decide +kernel) (pa_cons (pe_ix ix_list (pv 0) pe_int (fun _ _ => rfl)) pa_nil)) (nomark _))
        (pss_cons (ps_set (i := 3) sc_law_pick.nd rfl (Or.inl rfl) (pe_ix ix_list (pe_ix ix_list (pv 0) pe_int (fun _ _ => rfl)) (pe_ix ix_list (pv 0) pe_int (fun _ _ => rfl)) (fun _ _ => rfl)))
        (pss_one (ps_asg (pe_op op_add (pe_ix ix_list (pv 0) pe_int (fun _ _ => rfl)) pe_int) (pg_sub (pv 0) pe_int set_list))))
        pss_nil)
      (pss_cons (ps_if (pt_cmpR op_ge (pv 3) (pe_op op_pow pe_int pe_int) (nomark _))
        (pss_cons (ps_asg (pe_op op_fdivW (pv 3) (pv 1)) (pg_sub (pv 0) pe_int set_list))
        (pss_one (ps_ret (pe_op op_mod (pe_callTy call_int1 (by rfl) T.n.n_int (by decide +kernel) (pa_cons (pv 3) pa_nil)) (pv 1)))))
        pss_nil)
      (pss_cons (ps_set (i := 4) sc_law_pick.nd rfl (Or.inl rfl) (pe_op op_mod (pe_callTy call_int1 (by rfl) T.n.n_int (by decide +kernel) (pa_cons (pe_op op_add (pe_op op_add (pe_op op_mul (pe_ix ix_list (pv 0) pe_int (fun _ _ => rfl)) pe_int) (pe_op op_mod (pe_callTy call_int1 (by rfl) T.n.n_int (by decide +kernel) (pa_cons (pv 3) pa_nil)) pe_int)) (pe_op op_mul (pe_ix ix_list (pv 0) pe_int (fun _ _ => rfl)) pe_int)) pa_nil)) pe_int))
      (pss_cons (ps_set (i := 4) sc_law_pick.nd rfl (Or.inl rfl) (pe_op op_mod (pe_callTy call_int1 (by rfl) T.n.n_int (by decide +kernel) (pa_cons (pe_op op_mul (pv 4) (pe_op op_add (pe_op op_fdivW (pv 4) pe_int) pe_int)) pa_nil)) pe_int))
      (pss_cons (ps_asg (pv 4) (pg_sub (pv 0) pe_int set_list))
      (pss_one (ps_ret (pe_op op_mod (pe_callTy call_int1 (by rfl) T.n.n_int (by decide +kernel) (pa_cons (pe_op op_fdivW (pv 4) pe_int) pa_nil)) (pv 1)))))))))))), ?_⟩)
  · obtain ⟨t, c, size, rfl, _⟩ := h
    rfl
  obtain ⟨t, c, size, rfl, s0, s1, ⟨T0, hT, xs, pos, rest, mix, cnt, rfl, hc, hp, hm0, hm1⟩, q⟩ := h
  have ne : c ≠ t := tape_ne hT hc
  have dw : CDivW rest size := wide_div s0 (show size.natAbs < 2 ^ 30 by omega) (by decide) (by decide)
  have goU : ∀ {H' : Hp} {T' : List V}, (∀ b o, b ≠ t → H b = some o → H' b = some o) → H' t = some (.lst T') → (∃ (pos rest mix cnt : Int), T' = [.ref c, .int pos, .int rest, .int mix, .int cnt] ∧ 0 ≤ pos ∧ 0 ≤ mix ∧ mix < 2147483648) → Go t c H H' := by
    rintro H' T' k e ⟨p1, r1, m1, c1, rfl, h1, h2, h3⟩
    exact ⟨k, _, e, xs, p1, r1, m1, c1, rfl, k c _ ne hc, h1, h2, h3⟩
  dsimp only [cxOf]
  -- tape[2] > 1
  refine ⟨_, rfl, t, _, _, _, rfl, rfl, SqL.of hT, rfl, _, _, rfl, rfl, _, rfl, ?_⟩
  refine ite2 (fun _ => ?_) (fun _ => ?_)
  · refine ⟨_, rfl, t, _, _, _, rfl, rfl, SqL.of hT, rfl, .inl ⟨_, rfl, _, rfl, _, _, rfl, rfl, s0, ?_⟩⟩
    refine ⟨_, rfl, t, _, _, _, rfl, rfl, SqL.of hT, rfl, _, rfl, _, _, rfl, rfl, dw, ?_⟩
    refine ⟨_, rfl, t, _, _, 2, rfl, rfl, hT, rfl, ?_⟩
    refine ⟨_, rfl, q _ _ (Int.emod_nonneg _ (by omega)) (Int.emod_lt_of_pos _ s0) (goU (fun b o nb e => by rw [upd_ne nb]; exact e) upd_same ⟨_, _, _, _, rfl, hp, hm0, hm1⟩)⟩
  -- tape[4] = tape[4] + 1
  refine ⟨_, rfl, t, _, _, _, rfl, rfl, SqL.of hT, rfl, _, _, rfl, rfl, ?_⟩
  refine ⟨_, rfl, t, _, _, 4, rfl, rfl, hT, rfl, ?_⟩
  -- cell
  refine ⟨fun σ' H' => ∃ (cell pos' : Int) (y2 y4 : Option V), σ' = [some (.ref t), some (.int size), y2, some (.int cell), y4] ∧ 0 ≤ pos' ∧ (∀ b o, b ≠ t → H b = some o → H' b = some o) ∧ H' t = some (.lst [.ref c, .int pos', .int rest, .int mix, .int (cnt + 1)]), ?_, ?_⟩
  · have hT1 : (upd H t (HO.lst (List.set [V.ref c, V.int pos, V.int rest, V.int mix, V.int cnt] 4 (V.int (cnt + 1))))) t = some (.lst [.ref c, .int pos, .int rest, .int mix, .int (cnt + 1)]) := upd_same
    have hc1 : (upd H t (HO.lst (List.set [V.ref c, V.int pos, V.int rest, V.int mix, V.int cnt] 4 (V.int (cnt + 1))))) c = some (.lst (xs.map V.int)) := by rw [upd_ne ne]; exact hc
    have k1 : ∀ b o, b ≠ t → H b = some o → (upd H t (HO.lst (List.set [V.ref c, V.int pos, V.int rest, V.int mix, V.int cnt] 4 (V.int (cnt + 1))))) b = some o := fun b o nb e => by rw [upd_ne nb]; exact e
    generalize upd H t (HO.lst (List.set [V.ref c, V.int pos, V.int rest, V.int mix, V.int cnt] 4 (V.int (cnt + 1)))) = H1 at hT1 hc1 k1 ⊢
    refine ⟨_, rfl, t, _, _, _, rfl, rfl, SqL.of hT1, rfl, _, rfl, t, _, _, _, rfl, rfl, SqL.of hT1, rfl, _, _, rfl, .inl ⟨_, SqL.of hc1, rfl⟩, _, _, rfl, rfl, _, rfl, ?_⟩
    refine ite2 (fun hlt => ?_) (fun _ => ?_)
    · obtain ⟨j, rfl⟩ := Int.eq_ofNat_of_zero_le hp
      have hj : j < (xs.map V.int).length := by simpa using hlt
      have hj' : j < xs.length := by simpa using hj
      have at1 : atI (xs.map V.int) (j : Int) = some (V.int xs[j]) := atI_nat (by rw [List.getElem?_map, List.getElem?_eq_getElem hj']; rfl)
      refine ⟨_, rfl, t, _, _, _, rfl, rfl, SqL.of hT1, rfl, _, rfl, t, _, _, _, rfl, rfl, SqL.of hT1, rfl, c, _, _, _, rfl, rfl, SqL.of hc1, at1, ?_⟩
      refine ⟨_, rfl, t, _, _, _, rfl, rfl, SqL.of hT1, rfl, _, _, rfl, rfl, _, rfl, t, _, _, 1, rfl, rfl, hT1, rfl, ?_⟩
      exact ⟨_, _, _, _, rfl, by omega, fun b o nb e => by rw [upd_ne nb]; exact k1 b o nb e, upd_same⟩
    · exact ⟨_, _, _, _, rfl, hp, k1, hT1⟩
  · rintro σ' H' ⟨cell, pos', y2, y4, rfl, hp', k1, hT1⟩
    have dw2 : CDivW cell size := wide_div s0 (show size.natAbs < 2 ^ 30 by omega) (by decide) (by decide)
    refine ⟨_, rfl, _, _, rfl, rfl, ⟨by decide, by decide, by decide⟩, _, _, rfl, rfl, _, rfl, ?_⟩
    refine ite2 (fun _ => ?_) (fun _ => ?_)
    · refine ⟨_, rfl, _, rfl, _, _, rfl, rfl, dw2, _, rfl, t, _, _, 2, rfl, rfl, hT1, rfl, ?_⟩
      refine ⟨_, rfl, .inl ⟨_, rfl, _, rfl, _, _, rfl, rfl, s0, ?_⟩⟩
      exact q _ _ (Int.emod_nonneg _ (by omega)) (Int.emod_lt_of_pos _ s0) (goU (fun b o nb e => by rw [upd_ne nb]; exact k1 b o nb e) upd_same ⟨_, _, _, _, rfl, hp', hm0, hm1⟩)
    · refine ⟨_, rfl, t, _, _, _, rfl, rfl, SqL.of hT1, rfl, _, _, rfl, rfl, .inr (by decide), _, rfl, .inl ⟨_, rfl, _, _, rfl, rfl, (show (0 : Int) < 2147483629 by decide), ?_⟩⟩
      refine ⟨_, _, rfl, rfl, _, rfl, t, _, _, _, rfl, rfl, SqL.of hT1, rfl, _, _, rfl, rfl, .inr (by decide), _, _, rfl, rfl, .inl ⟨_, rfl, _, _, rfl, rfl, (show (0 : Int) < 2147483647 by decide), ?_⟩⟩
      have b1 : ∀ z : Int, 0 ≤ z % 2147483647 ∧ z % 2147483647 < 2147483647 := fun z => by omega
      have b2 : ∀ z : Int, 0 ≤ z % 2147483399 ∧ z % 2147483399 < 2147483399 := fun z => by omega
      refine ⟨_, rfl, _, rfl, _, _, rfl, rfl, ⟨by decide, by decide⟩, _, _, rfl, rfl, _, _, rfl, rfl, .inl ⟨Int.lt_of_lt_of_le (by decide) (b1 _).1, Int.lt_trans (b1 _).2 (by decide)⟩, .inl ⟨_, rfl, _, _, rfl, rfl, (show (0 : Int) < 2147483399 by decide), ?_⟩⟩
      refine ⟨_, rfl, _, rfl, t, _, _, 3, rfl, rfl, hT1, rfl, ?_⟩
      refine ⟨_, rfl, _, _, rfl, rfl, ⟨by decide, by decide⟩, .inl ⟨_, rfl, _, rfl, _, _, rfl, rfl, s0, ?_⟩⟩
      exact q _ _ (Int.emod_nonneg _ (by omega)) (Int.emod_lt_of_pos _ s0) (goU (fun b o nb e => by rw [upd_ne nb]; exact k1 b o nb e) upd_same ⟨_, _, _, _, rfl, hp', (b2 _).1, Int.lt_trans (b2 _).2 (by decide)⟩)

theorem ok_law_sign (T : Tx K mg fI c_MadeError c_BadRow c_BadThing) (D : Dx K mg "_law_sign" s_law_sign ["tape"]) (C_law_pick : Pr P w K mg base 1 "_law_pick" ["tape", "size"] spPick) : Pr P w K mg base 2 "_law_sign" ["tape"] spSign := by
  refine D.pr sc_law_sign (fun vs H Q E h => ?_) (fun f cdv A outer s H vs Q E hr h => ⟨_,
      (pss_cons (ps_set (i := 1) sc_law_sign.nd rfl (Or.inl rfl) (pe_callP C_law_pick (hr.mono (by decide)) (by rfl) (passes_call (takes_of rfl rfl rfl rfl) fun _ _ _ _ z => z) (pa_cons (pv 0) (pa_cons pe_int pa_nil))))
      (pss_cons (ps_if (pt_cmpR op_eq (pv 1) pe_int (nomark _))
        (pss_one (ps_ret (pe_callP C_law_pick (hr.mono (by decide)) (by rfl) (passes_call (takes_of rfl rfl rfl rfl) fun _ _ _ _ z => z) (pa_cons (pv 0) (pa_cons pe_int pa_nil)))))
        pss_nil)
      (pss_cons (ps_if (pt_cmpR op_eq (pv 1) pe_int (nomark _))
        (pss_one (ps_ret (pe_op op_sub pe_int (pe_callP C_law_pick (hr.mono (by decide)) (by rfl) (passes_call (takes_of rfl rfl rfl rfl) fun _ _ _ _ z => z) (pa_cons (pv 0) (pa_cons pe_int pa_nil))))))
        pss_nil)
      (pss_one (ps_ret (pe_callP C_law_pick (hr.mono (by decide)) (by rfl) (passes_call (takes_of rfl rfl rfl rfl) fun _ _ _ _ z => z) (pa_cons (pv 0) (pa_cons pe_int pa_nil)))))))), ?_⟩)
  · obtain ⟨t, c, rfl, _⟩ := h
    rfl
  obtain ⟨t, c, rfl, hT, q⟩ := h
  refine ⟨_, rfl, t, c, 4, rfl, by decide, by decide, hT, fun d H1 d0 d1 g1 => ?_⟩
  refine ⟨_, rfl, rfl, _, rfl, ?_⟩
  refine ite2 (fun _ => ?_) (fun _ => ?_)
  · exact ⟨_, rfl, t, c, 100, rfl, by decide, by decide, g1.tape, fun e H2 e0 e1 g2 => q _ _ e0 e1 (g1.trans g2)⟩
  refine ⟨_, rfl, rfl, _, rfl, ?_⟩
  refine ite2 (fun _ => ?_) (fun _ => ?_)
  · exact ⟨_, rfl, t, c, 3, rfl, by decide, by decide, g1.tape, fun e H2 e0 e1 g2 => ⟨_, _, rfl, rfl, q _ _ (by omega) (by omega) (g1.trans g2)⟩⟩
  · exact ⟨_, rfl, t, c, 5, rfl, by decide, by decide, g1.tape, fun e H2 e0 e1 g2 => q _ _ e0 (by omega) (g1.trans g2)⟩

theorem ok_law_signs (T : Tx K mg fI c_MadeError c_BadRow c_BadThing) (D : Dx K mg "_law_signs" s_law_signs ["tape", "many"]) (C_law_sign : Pr P w K mg base 2 "_law_sign" ["tape"] spSign) : Pr P w K mg base 3 "_law_signs" ["tape", "many"] spSigns := by
  refine D.pr sc_law_signs (fun vs H Q E h => ?_) (fun f cdv A outer s H vs Q E hr h => ⟨_,
      (pss_cons (ps_set (i := 2) sc_law_signs.nd rfl (Or.inl rfl) (pe_lst pa_nil))
      (pss_cons (ps_for (passes_of rfl) rfl (pi_range1 (by rfl) T.n.n_range (pa_cons (pv 1) pa_nil)) (pg_name (i := 3) sc_law_signs.nd rfl (Or.inl rfl))
        (pss_one (ps_expr (pe_bm PySem.F.plainAttrs_list PySem.F.slot_list_append PySem.F.type_list_append mt_append (pv 2) (pa_cons (pe_callP C_law_sign (hr.mono (by decide)) (by rfl) (passes_call (takes_of rfl rfl rfl rfl) fun _ _ _ _ z => z) (pa_cons (pv 0) pa_nil)) pa_nil)))))
      (pss_one (ps_ret (pv 2))))), ?_⟩)
  · obtain ⟨t, c, many, rfl, _⟩ := h
    rfl
  obtain ⟨t, c, many, rfl, m0, m1, hT, q⟩ := h
  refine ⟨Nat.zero_le _, fun p np => ?_⟩
  have pt := hT.there np
  refine ⟨_, rfl, _, rfl, by omega, by omega, for_range (lo := 0) (n := many.toNat) (fun i σ H' => ∃ (ns : List Int) (y : Option V), σ = [some (.ref t), some (.int many), some (.ref p), y] ∧ ns.length = i ∧ Sgn ns ∧ Go t c H H' ∧ H' p = some (.lst (ns.map V.int)))
    ⟨[], none, rfl, rfl, (fun z h => nomatch h), (Go.refl hT).new np, upd_same⟩ ?_ ?_⟩
  · rintro i σ H' hi ⟨ns, y, rfl, rfl, hs, g, hp⟩
    refine ⟨_, rfl, .inl ⟨rfl, _, SqL.of hp⟩, _, rfl, t, c, rfl, g.tape, fun d H2 d0 d1 g2 => ?_⟩
    have hp2 : H2 p = some (.lst (ns.map V.int)) := g2.keep p _ pt.1 hp
    refine ⟨p, _, _, rfl, rfl, hp2, Nat.lt_of_le_of_lt (m := 10000) (by rw [List.length_map]; omega) (by decide), ?_⟩
    refine ⟨ns ++ [d], _, rfl, by rw [List.length_append]; rfl, fun z hz => ?_, (g.trans g2).mut np pt, by rw [upd_same, List.map_append]; rfl⟩
    rcases List.mem_append.mp hz with h | h
    · exact hs z h
    · rw [List.mem_singleton.mp h]
      exact ⟨d0, d1⟩
  · rintro σ H' ⟨ns, y, rfl, hl, hs, g, hp⟩
    exact ⟨_, rfl, q p ns H' (by omega) hs np g hp⟩

theorem ok_law_odd (T : Tx K mg fI c_MadeError c_BadRow c_BadThing) (D : Dx K mg "_law_odd" s_law_odd ["tape"]) (C_law_pick : Pr P w K mg base 1 "_law_pick" ["tape", "size"] spPick) : Pr P w K mg base 2 "_law_odd" ["tape"] (spOdd K) := by
  refine D.pr sc_law_odd (fun vs H Q E h => ?_) (fun f cdv A outer s H vs Q E hr h => ⟨_,
      (pss_cons (ps_set (i := 1) sc_law_odd.nd rfl (Or.inl rfl) (pe_callP C_law_pick (hr.mono (by decide)) (by rfl) (passes_call (takes_of rfl rfl rfl rfl) fun _ _ _ _ z => z) (pa_cons (pv 0) (pa_cons pe_int pa_nil))))
      (pss_cons (ps_if (pt_cmpR op_eq (pv 1) pe_int (nomark _))
        (pss_one (ps_ret pe_non))
        pss_nil)
      (pss_cons (ps_if (pt_cmpR op_eq (pv 1) pe_int (nomark _))
        (pss_one (ps_ret pe_bl))
        pss_nil)
      (pss_cons (ps_if (pt_cmpR op_eq (pv 1) pe_int (nomark _))
        (pss_one (ps_ret pe_str))
        pss_nil)
      (pss_cons (ps_if (pt_cmpR op_eq (pv 1) pe_int (nomark _))
        (pss_one (ps_ret pe_dnewK))
        pss_nil)
      (pss_cons (ps_if (pt_cmpR op_eq (pv 1) pe_int (nomark _))
        (pss_one (ps_ret (pe_op op_add pe_int (pe_callP C_law_pick (hr.mono (by decide)) (by rfl) (passes_call (takes_of rfl rfl rfl rfl) fun _ _ _ _ z => z) (pa_cons (pv 0) (pa_cons pe_int pa_nil))))))
        pss_nil)
      (pss_cons (ps_if (pt_cmpR op_eq (pv 1) pe_int (nomark _))
        (pss_one (ps_ret (pe_op op_sub (pe_un un_neg pe_int) (pe_callP C_law_pick (hr.mono (by decide)) (by rfl) (passes_call (takes_of rfl rfl rfl rfl) fun _ _ _ _ z => z) (pa_cons (pv 0) (pa_cons pe_int pa_nil))))))
        pss_nil)
      (pss_cons (ps_if (pt_cmpR op_eq (pv 1) pe_int (nomark _))
        (pss_one (ps_ret (pe_lst (pa_cons pe_int (pa_cons pe_int pa_nil)))))
        pss_nil)
      (pss_cons (ps_if (pt_cmpR op_eq (pv 1) pe_int (nomark _))
        (pss_one (ps_ret (pe_tup (pa_cons pe_int (pa_cons pe_int pa_nil)))))
        pss_nil)
      (pss_cons (ps_if (pt_cmpR op_eq (pv 1) pe_int (nomark _))
        (pss_one (ps_ret pe_str))
        pss_nil)
      (pss_cons (ps_if (pt_cmpR op_eq (pv 1) pe_int (nomark _))
        (pss_one (ps_ret pe_bl))
        pss_nil)
      (pss_cons (ps_if (pt_cmpR op_eq (pv 1) pe_int (nomark _))
        (pss_one (ps_ret (pe_op op_pow pe_int pe_int)))
        pss_nil)
      (pss_one (ps_ret (pe_lst (pa_cons (pe_lst (pa_cons pe_int pa_nil)) (pa_cons pe_int pa_nil))))))))))))))))), ?_⟩)
  · obtain ⟨t, c, rfl, _⟩ := h
    rfl
  obtain ⟨t, c, rfl, hT, q⟩ := h
  refine ⟨_, rfl, t, c, 12, rfl, by decide, by decide, hT, fun k H1 k0 k1 g1 => ?_⟩
  have oi : ∀ i : Int, -1000 ≤ i → i ≤ 100000000000000000000 → Odd (.int i) := fun i h0 h1 => ⟨(Fn.int (nat45 (by omega) h1)).le (by decide) (by decide), Nat.zero_le _⟩
  have two : ∀ x y : Int, 0 ≤ x → x < 5 → 0 ≤ y → y < 5 → ∀ z ∈ [x, y], z.natAbs < 10 ^ 45 := fun x y x0 x1 y0 y1 z hz => by
    have hz' : z = x ∨ z = y := by simpa using hz
    exact nat45 (by omega) (by omega)
  refine ⟨_, rfl, rfl, _, rfl, ?_⟩
  refine ite2 (fun _ => ?_) (fun _ => ?_)
  · exact q .non .none H1 ⟨Fn.non.le (by decide) (by decide), by decide⟩ .non g1
  refine ⟨_, rfl, rfl, _, rfl, ?_⟩
  refine ite2 (fun _ => ?_) (fun _ => ?_)
  · exact q (.bl true) (.bool true) H1 ⟨(Fn.bl true).le (by decide) (by decide), by decide⟩ (.bl true) g1
  refine ⟨_, rfl, rfl, _, rfl, ?_⟩
  refine ite2 (fun _ => ?_) (fun _ => ?_)
  · exact q (.str "abc") (.str "abc") H1 ⟨(Fn.str (n := 5) (by decide +kernel)).le (by decide) (by decide), by decide⟩ (.str "abc") g1
  refine ⟨_, rfl, rfl, _, rfl, ?_⟩
  refine ite2 (fun _ => ?_) (fun _ => ?_)
  · exact fun p np => q (.ref p) (.dict []) _ ⟨Fn.dic.le (by decide) (by decide), by decide⟩ (.dic (newer_of (g1.free np) upd_same)) (g1.new np)
  refine ⟨_, rfl, rfl, _, rfl, ?_⟩
  refine ite2 (fun _ => ?_) (fun _ => ?_)
  · exact ⟨_, rfl, t, c, 3, rfl, by decide, by decide, g1.tape, fun e H2 e0 e1 g2 => ⟨_, _, rfl, rfl, q _ _ _ (oi _ (by omega) (by omega)) (.int _) (g1.trans g2)⟩⟩
  refine ⟨_, rfl, rfl, _, rfl, ?_⟩
  refine ite2 (fun _ => ?_) (fun _ => ?_)
  · exact ⟨_, rfl, _, rfl, t, c, 3, rfl, by decide, by decide, g1.tape, fun e H2 e0 e1 g2 => ⟨_, _, rfl, rfl, q _ _ _ (oi _ (by omega) (by omega)) (.int _) (g1.trans g2)⟩⟩
  refine ⟨_, rfl, rfl, _, rfl, ?_⟩
  refine ite2 (fun _ => ?_) (fun _ => ?_)
  · exact ⟨by show 2 ≤ sizeLine; decide, fun p np => q (.ref p) (.list ([1, 2].map PyData.int)) _ (odd_ints (two 1 2 (by decide) (by decide) (by decide) (by decide)) (by decide)).1 (.lst (newer_of (g1.free np) upd_same) (.ints [1, 2])) (g1.new np)⟩
  refine ⟨_, rfl, rfl, _, rfl, ?_⟩
  refine ite2 (fun _ => ?_) (fun _ => ?_)
  · exact ⟨by show 2 ≤ sizeLine; decide, fun p np => q (.ref p) (.tuple ([0, 1].map PyData.int)) _ (odd_ints (two 0 1 (by decide) (by decide) (by decide) (by decide)) (by decide)).2 (.tup (newer_of (g1.free np) upd_same) (.ints [0, 1])) (g1.new np)⟩
  refine ⟨_, rfl, rfl, _, rfl, ?_⟩
  refine ite2 (fun _ => ?_) (fun _ => ?_)
  · exact q (.str "") (.str "") H1 ⟨(Fn.str (n := 5) (by decide +kernel)).le (by decide) (by decide), by decide⟩ (.str "") g1
  refine ⟨_, rfl, rfl, _, rfl, ?_⟩
  refine ite2 (fun _ => ?_) (fun _ => ?_)
  · exact q (.bl false) (.bool false) H1 ⟨(Fn.bl false).le (by decide) (by decide), by decide⟩ (.bl false) g1
  refine ⟨_, rfl, rfl, _, rfl, ?_⟩
  refine ite2 (fun _ => ?_) (fun _ => ?_)
  · refine ⟨_, _, rfl, rfl, ⟨by decide, by decide, by decide⟩, ?_⟩
    exact q (.int ((10 : Int) ^ (20 : Int).toNat)) _ H1 (oi _ (by decide) (by decide)) (.int _) g1
  refine ⟨by show 1 ≤ sizeLine; decide, fun p np => ⟨by show 2 ≤ sizeLine; decide, fun p2 np2 => ?_⟩⟩
  have ne : p ≠ p2 := fun e => by
    rw [← e, upd_same] at np2
    cases np2
  have g2 := g1.new (o := .lst [.int 1]) np
  have np2' : H p2 = none := g2.free np2
  have i1 : Fn (.list ([1].map PyData.int)) 50 1 := (Fn.lst (Fn.ints (ns := [1]) fun z hz => by rw [List.mem_singleton.mp hz]; decide)).le (by decide) (by decide)
  refine q (.ref p2) (.list [.list ([1].map PyData.int), .int 2]) _ ⟨(Fn.lst (n := 50) (k := 1) fun d hd => ?_).le (by decide) (by decide), by decide⟩
    (.lst (newer_of np2' upd_same) (.cons (.lst (newer_of (g1.free np) (by rw [upd_ne ne, upd_same]; rfl)) (.ints [1])) (.cons (.int 2) .nil))) (g2.new np2)
  rcases List.mem_cons.mp hd with e | hd
  · rw [e]
    exact i1
  · rw [List.mem_singleton.mp hd]
    exact (Fn.int (by decide)).le (by decide) (by decide)

theorem ok_law_is_row (T : Tx K mg fI c_MadeError c_BadRow c_BadThing) (D : Dx K mg "_law_is_row" s_law_is_row ["thing"]) : Pr P w K mg base 1 "_law_is_row" ["thing"] (spD K dRow) := by
  refine D.pr sc_law_is_row (fun vs H Q E h => ?_) (fun f cdv A outer s H vs Q E hr h => ⟨_,
      (pss_cons (ps_if (PW.pt (pw_and (pt_not (pt_val (pe_callB call_isi (by rfl) T.n.n_isinstance (by decide +kernel) (pa_cons (pv 0) (pa_cons (pe_ty "list" T.n.n_list) pa_nil))))) (pw_and1 (pt_not (pt_val (pe_callB call_isi (by rfl) T.n.n_isinstance (by decide +kernel) (pa_cons (pv 0) (pa_cons (pe_ty "tuple" T.n.n_tuple) pa_nil))))))))
        (pss_one (ps_ret pe_bl))
        pss_nil)
      (pss_cons (ps_for (passes_of rfl) rfl (pi_seq (pv 0)) (pg_name (i := 1) sc_law_is_row.nd rfl (Or.inl rfl))
        (pss_one (ps_if (PW.pt (pw_or (pt_val (pe_callB call_isi (by rfl) T.n.n_isinstance (by decide +kernel) (pa_cons (pv 1) (pa_cons (pe_ty "bool" T.n.n_bool) pa_nil)))) (pw_or (pt_not (pt_val (pe_callB call_isi (by rfl) T.n.n_isinstance (by decide +kernel) (pa_cons (pv 1) (pa_cons (pe_ty "int" T.n.n_int) pa_nil))))) (pw_or (pt_cmpR op_lt (pv 1) pe_int (nomark _)) (pw_or1 (pt_cmpR op_gt (pv 1) pe_int (nomark _)))))))
          (pss_one (ps_ret pe_bl))
          pss_nil)))
      (pss_one (ps_ret pe_bl)))), ?_⟩)
  · obtain ⟨v, d, rfl, _⟩ := h
    rfl
  obtain ⟨v, d, rfl, hd, q⟩ := h
  cases es : dSeq d with
  | false =>
    have e1 : dList d = false := by cases d <;> first | rfl | cases es
    have e2 : dTuple d = false := by cases d <;> first | rfl | cases es
    refine ⟨_, rfl, _, _, _, _, _, rfl, .ty "list", hd.ty, is_list d, _, rfl, ?_⟩
    rw [e1]
    refine iteT ⟨_, rfl, _, _, _, _, _, rfl, .ty "tuple", hd.ty, is_tuple d, _, rfl, ?_⟩
    rw [e2]
    refine iteT ?_
    have ew : dRow d = false := by unfold dRow; rw [es]; rfl
    have z := q H (.refl H)
    rw [ew] at z
    exact z
  | true =>
    have ty := hd.ty
    obtain ⟨a, xs, b, rfl, ha, hb, el, et⟩ := hd.seq es
    refine (show ∀ (R : Bool → Hp → Prop), R false H → tAnd _ _ _ H R from fun R r => ?_) _ ?_
    · refine ⟨_, rfl, _, _, _, _, _, rfl, .ty "list", ty, is_list d, _, rfl, ?_⟩
      rw [el]
      cases b with
      | true => exact iteF r
      | false =>
        refine iteT ⟨_, rfl, _, _, _, _, _, rfl, .ty "tuple", ty, is_tuple d, _, rfl, ?_⟩
        rw [et]
        exact r
    refine iteF ?_
    refine ⟨_, rfl, for_seq (xs := xs) b (fun i σ H' => ∃ y, σ = [some (.ref a), y] ∧ Same H H' ∧ ∀ j x, j < i → (dItems d)[j]? = some x → dSign x = true) ⟨none, rfl, .refl H, fun j x hj => absurd hj (Nat.not_lt_zero _)⟩ (fun i σ H' _ ⟨_, _, s', _⟩ => hb.keep s') ?_ ?_⟩
    · rintro i x σ H' hx ⟨y, rfl, s', hs⟩
      obtain ⟨dx, e1, hdx⟩ := ha.get hx
      have tx := (hdx.keep s').ty
      have yes : dSign dx = true → ∃ y, [some (V.ref a), some x] = [some (V.ref a), y] ∧ Same H H' ∧ ∀ j z, j < i + 1 → (dItems d)[j]? = some z → dSign z = true := fun ed => ⟨_, rfl, s', fun j z hj ez => by
        by_cases c : j = i
        · rw [c, e1] at ez
          cases ez
          exact ed
        · exact hs j z (by omega) ez⟩
      have no : dSign dx = false → Q (.bl false) H' := fun ed => by
        have ew : dRow d = false := by unfold dRow; rw [es, not_all e1 ed]; rfl
        have z := q H' s'
        rw [ew] at z
        exact z
      refine ⟨_, rfl, _, _, _, _, _, rfl, .ty "bool", tx, is_bool dx, _, rfl, ?_⟩
      cases dx with
      | bool b => exact iteT (no rfl)
      | int i =>
        cases hdx
        refine iteF ⟨_, rfl, _, _, _, _, _, rfl, .ty "int", tx, is_int (.int i), _, rfl, ?_⟩
        refine iteF ⟨_, rfl, _, _, rfl, rfl, _, rfl, ?_⟩
        by_cases c : i < 0
        · rw [decide_eq_true c]
          refine iteT (no ?_)
          show (decide (0 ≤ i) && _) = false
          rw [decide_eq_false (by omega), Bool.false_and]
        · rw [decide_eq_false c]
          refine iteF ⟨_, rfl, _, _, rfl, rfl, _, rfl, ?_⟩
          by_cases c2 : 99 < i
          · rw [decide_eq_true c2]
            refine iteT (no ?_)
            show (decide (0 ≤ i) && decide (i < 100)) = false
            rw [decide_eq_false (show ¬ i < 100 by omega), Bool.and_false]
          · rw [decide_eq_false c2]
            refine iteF (yes ?_)
            show (decide (0 ≤ i) && decide (i < 100)) = true
            rw [decide_eq_true (show 0 ≤ i by omega), decide_eq_true (show i < 100 by omega)]
            rfl
      | none => exact iteF ⟨_, rfl, _, _, _, _, _, rfl, .ty "int", tx, is_int _, _, rfl, iteT (no rfl)⟩
      | str y => exact iteF ⟨_, rfl, _, _, _, _, _, rfl, .ty "int", tx, is_int _, _, rfl, iteT (no rfl)⟩
      | list y => exact iteF ⟨_, rfl, _, _, _, _, _, rfl, .ty "int", tx, is_int _, _, rfl, iteT (no rfl)⟩
      | tuple y => exact iteF ⟨_, rfl, _, _, _, _, _, rfl, .ty "int", tx, is_int _, _, rfl, iteT (no rfl)⟩
      | dict y => exact iteF ⟨_, rfl, _, _, _, _, _, rfl, .ty "int", tx, is_int _, _, rfl, iteT (no rfl)⟩
    · rintro σ H' ⟨y, rfl, s', hs⟩
      have ew : dRow d = true := by
        unfold dRow
        rw [es, Bool.true_and]
        exact all_at fun i x ex => hs i x (by rw [ha.len]; exact (List.getElem?_eq_some_iff.mp ex).1) ex
      have z := q H' s'
      rw [ew] at z
      exact z

theorem ok_law_try_form (T : Tx K mg fI c_MadeError c_BadRow c_BadThing) (D : Dx K mg "_law_try_form" s_law_try_form ["thing"]) (C_form_of : Pr P w K mg base 5 "form_of" ["thing"] (spThing1 K c_BadThing dFst)) : Pr P w K mg base 6 "_law_try_form" ["thing"] (spTry K "form") := by
  refine D.pr sc_law_try_form (fun vs H Q E h => ?_) (fun f cdv A outer s H vs Q E hr h => ⟨_,
      (pss_one (ps_try_as (i := 1) (c := .ref c_BadThing) (Wout := fun _ _ _ _ => False) rfl rfl sc_law_try_form.nd rfl rfl ⟨rfl, by decide, Or.inl T.x_BadThing.g⟩ takes0
        (fun W pn xe tk po => (pss_one (ps_ret (pe_tup (pa_cons pe_str (pa_cons (pe_callT C_form_of (hr.mono (by decide)) tk (by rfl) (pa_cons (pv 0) pa_nil)) pa_nil))))))
        (fun a oe cls d pn hz hf => (pss_cons (ps_if (PW.pt (pw_or (pt_val (pe_callB (call_isD hz hf) (by rfl) T.n.n_isinstance (by decide +kernel) (pa_cons (pv 1) (pa_cons (pe_glob (v := .ref c_BadRow) rfl T.x_BadRow.g rfl) pa_nil)))) (pw_or (pt_not (pt_val (pe_callB (call_isD hz hf) (by rfl) T.n.n_isinstance (by decide +kernel) (pa_cons (pv 1) (pa_cons (pe_glob (v := .ref c_MadeError) rfl T.x_MadeError.g rfl) pa_nil))))) (pw_or1 (pt_not (pt_val (pe_callB (call_isD hz hf) (by rfl) T.n.n_isinstance (by decide +kernel) (pa_cons (pv 1) (pa_cons (pe_ty "ValueError" T.n.n_ValueError) pa_nil)))))))))
          (pss_one (ps_ret (pe_tup (pa_cons pe_str (pa_cons pe_int pa_nil)))))
          pss_nil)
        (pss_one (ps_ret (pe_tup (pa_cons pe_str (pa_cons (pe_xfD hz hf (pv 1)) pa_nil))))))))), ?_⟩)
  · obtain ⟨v, d, rfl, _⟩ := h
    rfl
  obtain ⟨v, d, rfl, hd, hl, q⟩ := h
  refine ⟨_, rfl, spThing1_of hd (fun e H1 s1 => ⟨by show 2 ≤ sizeLine; decide, fun p np => q p _ (s1.trans (same_new np)) (.inr (.inl ⟨e, rfl, upd_same⟩))⟩) fun e dd H1 s1 hx => ⟨true, T.m_BadThing, fun _ a na => ?_, fun z => nomatch z⟩⟩
  refine ⟨_, rfl, _, dd, _, _, _, _, rfl, T.e_BadThing, rfl, hx, rfl, .own _, T.k_BadRow, _, rfl, ?_⟩
  refine iteF ⟨_, rfl, _, dd, _, _, _, _, rfl, T.e_BadThing, rfl, hx, rfl, .own _, T.k_MadeError, _, rfl, ?_⟩
  refine iteF ⟨_, rfl, _, dd, _, _, _, _, rfl, T.e_BadThing, rfl, hx, rfl, .ty "ValueError", T.k_ValueError, _, rfl, ?_⟩
  refine iteF ?_
  exact ⟨_, rfl, rfl, _, dd, _, v, rfl, T.e_BadThing, T.e_BadThing.v, rfl, hx, rfl, ⟨by show 2 ≤ sizeLine; decide, fun p np => q p _ (s1.trans (same_new np)) (.inl ⟨e, upd_same⟩)⟩⟩

theorem ok_law_try_number (T : Tx K mg fI c_MadeError c_BadRow c_BadThing) (D : Dx K mg "_law_try_number" s_law_try_number ["thing"]) (C_number_of : Pr P w K mg base 5 "number_of" ["thing"] (spThing1 K c_BadThing dSnd)) : Pr P w K mg base 6 "_law_try_number" ["thing"] (spTry K "number") := by
  refine D.pr sc_law_try_number (fun vs H Q E h => ?_) (fun f cdv A outer s H vs Q E hr h => ⟨_,
      (pss_one (ps_try_as (i := 1) (c := .ref c_BadThing) (Wout := fun _ _ _ _ => False) rfl rfl sc_law_try_number.nd rfl rfl ⟨rfl, by decide, Or.inl T.x_BadThing.g⟩ takes0
        (fun W pn xe tk po => (pss_one (ps_ret (pe_tup (pa_cons pe_str (pa_cons (pe_callT C_number_of (hr.mono (by decide)) tk (by rfl) (pa_cons (pv 0) pa_nil)) pa_nil))))))
        (fun a oe cls d pn hz hf => (pss_one (ps_ret (pe_tup (pa_cons pe_str (pa_cons (pe_xfD hz hf (pv 1)) pa_nil)))))))), ?_⟩)
  · obtain ⟨v, d, rfl, _⟩ := h
    rfl
  obtain ⟨v, d, rfl, hd, hl, q⟩ := h
  refine ⟨_, rfl, spThing1_of hd (fun e H1 s1 => ⟨by show 2 ≤ sizeLine; decide, fun p np => q p _ (s1.trans (same_new np)) (.inr (.inr (.inl ⟨e, rfl, upd_same⟩)))⟩) fun e dd H1 s1 hx => ⟨true, T.m_BadThing, fun _ a na => ?_, fun z => nomatch z⟩⟩
  exact ⟨_, rfl, rfl, _, dd, _, v, rfl, T.e_BadThing, T.e_BadThing.v, rfl, hx, rfl, ⟨by show 2 ≤ sizeLine; decide, fun p np => q p _ (s1.trans (same_new np)) (.inl ⟨e, upd_same⟩)⟩⟩

theorem ok_law_try_body (T : Tx K mg fI c_MadeError c_BadRow c_BadThing) (D : Dx K mg "_law_try_body" s_law_try_body ["thing"]) (C_body_of : Pr P w K mg base 6 "body_of" ["thing"] (spBodyOf K c_BadThing)) : Pr P w K mg base 7 "_law_try_body" ["thing"] (spTry K "body") := by
  refine D.pr sc_law_try_body (fun vs H Q E h => ?_) (fun f cdv A outer s H vs Q E hr h => ⟨_,
      (pss_one (ps_try_as (i := 1) (c := .ref c_BadThing) (Wout := fun _ _ _ _ => False) rfl rfl sc_law_try_body.nd rfl rfl ⟨rfl, by decide, Or.inl T.x_BadThing.g⟩ takes0
        (fun W pn xe tk po => (pss_one (ps_ret (pe_tup (pa_cons pe_str (pa_cons (pe_callT C_body_of (hr.mono (by decide)) tk (by rfl) (pa_cons (pv 0) pa_nil)) pa_nil))))))
        (fun a oe cls d pn hz hf => (pss_one (ps_ret (pe_tup (pa_cons pe_str (pa_cons (pe_xfD hz hf (pv 1)) pa_nil)))))))), ?_⟩)
  · obtain ⟨v, d, rfl, _⟩ := h
    rfl
  obtain ⟨v, d, rfl, hd, hl, q⟩ := h
  refine ⟨_, rfl, spBodyOf_of hd (Nat.le_trans hl (by decide)) (fun e p1 H1 s1 e1 => ⟨by show 2 ≤ sizeLine; decide, fun p np => q p _ (s1.trans (same_new np)) (.inr (.inr (.inr ⟨e, rfl, p1, upd_same, (same_new np) _ _ e1⟩)))⟩) fun e dd H1 s1 hx => ⟨true, T.m_BadThing, fun _ a na => ?_, fun z => nomatch z⟩⟩
  exact ⟨_, rfl, rfl, _, dd, _, v, rfl, T.e_BadThing, T.e_BadThing.v, rfl, hx, rfl, ⟨by show 2 ≤ sizeLine; decide, fun p np => q p _ (s1.trans (same_new np)) (.inl ⟨e, upd_same⟩)⟩⟩

theorem ok_law_due (T : Tx K mg fI c_MadeError c_BadRow c_BadThing) (D : Dx K mg "_law_due" s_law_due ["thing", "what"]) (C_law_is_row : Pr P w K mg base 1 "_law_is_row" ["thing"] (spD K dRow)) : Pr P w K mg base 2 "_law_due" ["thing", "what"] (spDue K) := by
  refine D.pr sc_law_due (fun vs H Q E h => ?_) (fun f cdv A outer s H vs Q E hr h => ⟨_,
      (pss_cons (ps_if (PW.pt (pw_or (pt_not (pt_val (pe_callP C_law_is_row (hr.mono (by decide)) (by rfl) (passes_call (takes_of rfl rfl rfl rfl) fun _ _ _ _ z => z) (pa_cons (pv 0) pa_nil)))) (pw_or (pt_cmpR op_lt (pe_callB call_len (by rfl) T.n.n_len (by decide +kernel) (pa_cons (pv 0) pa_nil)) pe_int (nomark _)) (pw_or1 (pt_cmpR op_gt (pe_ix ix_seq (pv 0) pe_int (fun _ _ => rfl)) pe_int (nomark _))))))
        (pss_one (ps_ret (pe_tup (pa_cons pe_str (pa_cons (pv 0) pa_nil)))))
        pss_nil)
      (pss_cons (ps_if (pt_cmpR op_eq (pv 1) pe_str (nomark _))
        (pss_one (ps_ret (pe_tup (pa_cons pe_str (pa_cons (pe_ix ix_seq (pv 0) pe_int (fun _ _ => rfl)) pa_nil)))))
        pss_nil)
      (pss_cons (ps_if (pt_cmpR op_eq (pv 1) pe_str (nomark _))
        (pss_one (ps_ret (pe_tup (pa_cons pe_str (pa_cons (pe_ix ix_seq (pv 0) pe_int (fun _ _ => rfl)) pa_nil)))))
        pss_nil)
      (pss_cons (ps_set (i := 2) sc_law_due.nd rfl (Or.inl rfl) (pe_lst pa_nil))
      (pss_cons (ps_for (passes_of rfl) rfl (pi_range2 (by rfl) T.n.n_range (pa_cons pe_int (pa_cons (pe_callB call_len (by rfl) T.n.n_len (by decide +kernel) (pa_cons (pv 0) pa_nil)) pa_nil))) (pg_name (i := 3) sc_law_due.nd rfl (Or.inl rfl))
        (pss_one (ps_expr (pe_bm PySem.F.plainAttrs_list PySem.F.slot_list_append PySem.F.type_list_append mt_append (pv 2) (pa_cons (pe_op op_mod (pe_callTy call_int1 (by rfl) T.n.n_int (by decide +kernel) (pa_cons (pe_op op_sub (pe_op op_add (pe_ix ix_seq (pv 0) (pv 3) (fun _ _ => rfl)) pe_int) (pe_op op_mul pe_int (pe_ix ix_seq (pv 0) pe_int (fun _ _ => rfl)))) pa_nil)) pe_int) pa_nil)))))
      (pss_one (ps_ret (pe_tup (pa_cons pe_str (pa_cons (pe_callTy call_tuple_of (by rfl) T.n.n_tuple (by decide +kernel) (pa_cons (pv 2) pa_nil)) pa_nil)))))))))), ?_⟩)
  · obtain ⟨v, d, what, rfl, _⟩ := h
    rfl
  obtain ⟨v, d, what, rfl, hd, hl, hw, q⟩ := h
  refine ⟨_, rfl, v, d, rfl, hd, fun H1 s1 => ⟨_, rfl, ?_⟩⟩
  have no : ∀ H2, Same H H2 → dThing d = false → ∀ p, H2 p = none → Q (.ref p) (upd H2 p (.tup [.str "refused", v])) := fun H2 s2 e p np => q p _ (s2.trans (same_new np)) (.inl ⟨e, upd_same⟩)
  cases er : dRow d with
  | false =>
    have e : dThing d = false := by unfold dThing; rw [er]; rfl
    exact iteT ⟨_, rfl, by show 2 ≤ sizeLine; decide, no H1 s1 e⟩
  | true =>
  obtain ⟨a, b, rfl, hb, hs, en, el, et⟩ := hd.row er
  have hb1 := hb.keep s1
  have eT := dThing_row er hs en
  have hlen : (dInts d).length ≤ 1000 := by rw [dInts_len]; exact hl
  have ls : ∀ R : VK, R (.int ((dInts d).length : Int)) H1 → True := fun _ _ => trivial
  refine iteF ⟨_, rfl, _, ((dInts d).map V.int).length, rfl, ?_, _, _, rfl, rfl, _, rfl, ?_⟩
  · cases b with
    | true => exact .inl ⟨_, hb1, rfl⟩
    | false => exact .inr ⟨_, hb1, rfl⟩
  rw [List.length_map]
  by_cases c : (dInts d).length < 2
  · rw [decide_eq_true (show ((dInts d).length : Int) < 2 by omega)]
    have e : dThing d = false := by
      rw [eT]
      cases h : dInts d with
      | nil => rfl
      | cons f r =>
        cases r with
        | nil => rfl
        | cons n r =>
          rw [h] at c
          exact absurd c (by simp)
    exact iteT ⟨_, rfl, by show 2 ≤ sizeLine; decide, no H1 s1 e⟩
  rw [decide_eq_false (show ¬ ((dInts d).length : Int) < 2 by omega)]
  obtain ⟨fo, nu, r, ed⟩ : ∃ fo nu r, dInts d = fo :: nu :: r := by
    cases h : dInts d with
    | nil => rw [h] at c; exact absurd (show (0 : Nat) < 2 by decide) c
    | cons f r =>
      cases r with
      | nil => rw [h] at c; exact absurd (show (1 : Nat) < 2 by decide) c
      | cons n r => exact ⟨f, n, r, rfl⟩
  have item : ∀ {H2 : Hp} {R : VK} {ix : Nat} {z : Int}, Same H1 H2 → (dInts d)[ix]? = some z → R (.int z) H2 → rIx K (.ref a) (.int (ix : Int)) H2 R := fun {H2 R ix z} s2 ez r => by
    have hb2 := hb1.keep s2
    have ez' : ((dInts d).map V.int)[ix]? = some (.int z) := by rw [List.getElem?_map, ez]; rfl
    cases b with
    | true => exact .inl ⟨a, _, _, _, rfl, rfl, hb2, atI_nat ez', r⟩
    | false => exact .inr (.inl ⟨a, _, _, _, rfl, rfl, hb2, atI_nat ez', r⟩)
  have i0 : (dInts d)[0]? = some fo := by rw [ed]; rfl
  have i1 : (dInts d)[1]? = some nu := by rw [ed]; rfl
  have h0 := hs fo (List.mem_of_getElem? i0)
  refine iteF ⟨_, rfl, item (ix := 0) (.refl H1) i0 ⟨_, _, rfl, rfl, _, rfl, ?_⟩⟩
  by_cases c2 : 4 < fo
  · rw [decide_eq_true c2]
    have e : dThing d = false := by
      rw [eT, ed]
      exact decide_eq_false (by omega)
    exact iteT ⟨_, rfl, by show 2 ≤ sizeLine; decide, no H1 s1 e⟩
  rw [decide_eq_false c2]
  have e : dThing d = true := by
    rw [eT, ed]
    exact decide_eq_true (by omega)
  have eF : dFst d = fo := by unfold dFst; rw [ed]; rfl
  have eS : dSnd d = nu := by unfold dSnd; rw [ed]; rfl
  refine iteF ⟨_, rfl, rfl, _, rfl, ?_⟩
  by_cases w1 : what = "form"
  · subst w1
    rw [decide_eq_true rfl]
    refine iteT ⟨_, rfl, item (ix := 0) (.refl H1) i0 ⟨by show 2 ≤ sizeLine; decide, fun p np => q p _ (s1.trans (same_new np)) (.inr (.inl ⟨e, rfl, by rw [eF]; exact upd_same⟩))⟩⟩
  rw [decide_eq_false (fun z => w1 (V.str.inj z))]
  refine iteF ⟨_, rfl, rfl, _, rfl, ?_⟩
  by_cases w2 : what = "number"
  · subst w2
    rw [decide_eq_true rfl]
    refine iteT ⟨_, rfl, item (ix := 1) (.refl H1) i1 ⟨by show 2 ≤ sizeLine; decide, fun p np => q p _ (s1.trans (same_new np)) (.inr (.inr (.inl ⟨e, rfl, by rw [eS]; exact upd_same⟩)))⟩⟩
  rw [decide_eq_false (fun z => w2 (V.str.inj z))]
  obtain rfl : what = "body" := by
    rcases hw with h | h | h
    · exact absurd h w1
    · exact absurd h w2
    · exact h
  refine iteF ⟨Nat.zero_le _, fun p np => ?_⟩
  refine ⟨_, rfl, _, ((dInts d).map V.int).length, rfl, ?_, _, _, rfl, ⟨by decide, by decide, by omega, by rw [List.length_map]; omega⟩, ?_⟩
  · have hb2 := hb1.keep (same_new (o := .lst []) np)
    cases b with
    | true => exact .inl ⟨_, hb2, rfl⟩
    | false => exact .inr ⟨_, hb2, rfl⟩
  rw [List.length_map]
  have hB : ∀ i, i < (dInts d).length - 2 → ∃ z, (dInts d)[2 + i]? = some z := fun i hi => ⟨_, List.getElem?_eq_getElem (by omega)⟩
  refine for_range (lo := 2) (n := (((dInts d).length : Int) - 2).toNat) (fun i σ H' => ∃ y, σ = [some (.ref a), some (.str "body"), some (.ref p), y] ∧ Same H1 H' ∧ H' p = some (.lst ((shiftI (-20 * fo) (((dInts d).drop 2).take i)).map V.int)))
    ⟨none, rfl, same_new np, upd_same⟩ ?_ ?_
  · rintro i σ H' hi ⟨y, rfl, s', hp⟩
    obtain ⟨z, ez⟩ := hB i (by omega)
    refine ⟨_, rfl, .inl ⟨rfl, _, SqL.of hp⟩, _, rfl, _, rfl, ?_⟩
    have ei : (2 : Int) + (i : Int) = ((2 + i : Nat) : Int) := by omega
    rw [ei]
    refine item s' ez ⟨_, _, rfl, rfl, ?_⟩
    refine ⟨_, rfl, item (ix := 0) s' i0 ⟨_, _, rfl, rfl, .inl (by decide), _, _, rfl, rfl, .inl ⟨_, rfl, _, _, rfl, rfl, (show (0 : Int) < 100 by decide), ?_⟩⟩⟩
    have em : (z + 500 - 20 * fo) % 100 = (z + -20 * fo) % 100 := by omega
    have etake : ((dInts d).drop 2).take (i + 1) = ((dInts d).drop 2).take i ++ [z] := by
      rw [List.take_add_one, List.getElem?_drop, ez]
      rfl
    refine ⟨p, _, _, rfl, rfl, hp, ?_, _, rfl, same_mut s' np, ?_⟩
    · unfold shiftI
      rw [List.length_map, List.length_map]
      exact Nat.lt_of_le_of_lt (Nat.le_trans (List.length_take_le _ _) (by omega)) (show 1000 < sizeLine by decide)
    · rw [upd_same, etake]
      unfold shiftI
      rw [List.map_append, List.map_append]
      show some (HO.lst (_ ++ [V.int ((z + 500 - 20 * fo) % 100)])) = _
      rw [em]
      rfl
  · rintro σ H' ⟨y, rfl, s', hp⟩
    have et : ((dInts d).drop 2).take (((dInts d).length : Int) - 2).toNat = (dInts d).drop 2 := List.take_of_length_le (by rw [List.length_drop]; omega)
    rw [et] at hp
    refine ⟨_, rfl, p, _, rfl, .inl ⟨SqL.of hp, fun p2 np2 => ⟨by show 2 ≤ sizeLine; decide, fun p3 np3 => ?_⟩⟩⟩
    refine q p3 _ (((s1.trans s').trans (same_new np2)).trans (same_new np3)) (.inr (.inr (.inr ⟨e, rfl, p2, upd_same, ?_⟩)))
    unfold dBody
    rw [eF]
    exact (same_new np3) _ _ upd_same

def spLaw (K : PySem.W.Frag) : Sp := fun vs H Q _ => ∃ (a : Addr) (ns : List Int), vs = [.ref a] ∧ SqL K H a (ns.map V.int) ∧ ns.length ≤ 63 ∧ ∀ H', Q (.bl true) H'
theorem ok_law {f : Addr} {fd : FuncData} (T : Tx K mg fI c_MadeError c_BadRow c_BadThing) (F : Fun K "law" "law" s_law f fd) (C_law_tape : Pr P w K mg base 1 "_law_tape" ["script"] (spTape K)) (C_law_pick : Pr P w K mg base 1 "_law_pick" ["tape", "size"] spPick) (C_law_signs : Pr P w K mg base 3 "_law_signs" ["tape", "many"] spSigns) (C_law_odd : Pr P w K mg base 2 "_law_odd" ["tape"] (spOdd K)) (C_law_due : Pr P w K mg base 2 "_law_due" ["thing", "what"] (spDue K)) (C_is_thing : Pr P w K mg base 4 "is_thing" ["row"] (spD K dThing)) (C_law_try_form : Pr P w K mg base 6 "_law_try_form" ["thing"] (spTry K "form")) (C_law_try_number : Pr P w K mg base 6 "_law_try_number" ["thing"] (spTry K "number")) (C_law_try_body : Pr P w K mg base 7 "_law_try_body" ["thing"] (spTry K "body")) : FnG P w K mg base 8 f fd ["script"] (spLaw K) := by
  refine fun_okG F sc_law (fun vs H Q E h => ?_) (fun cdv A outer s H vs Q E hg hr h => ⟨_,
      (pss_cons (ps_set (i := 1) sc_law.nd rfl (Or.inl rfl) (pe_callP C_law_tape (hr.mono (by decide)) (by rfl) (passes_call (takes_of rfl rfl rfl rfl) fun _ _ _ _ z => z) (pa_cons (pv 0) pa_nil)))
      (pss_cons (ps_set (i := 2) sc_law.nd rfl (Or.inl rfl) (pe_callP C_law_pick (hr.mono (by decide)) (by rfl) (passes_call (takes_of rfl rfl rfl rfl) fun _ _ _ _ z => z) (pa_cons (pv 1) (pa_cons pe_int pa_nil))))
      (pss_cons (ps_set (i := 3) sc_law.nd rfl (Or.inl rfl) (pe_callP C_law_pick (hr.mono (by decide)) (by rfl) (passes_call (takes_of rfl rfl rfl rfl) fun _ _ _ _ z => z) (pa_cons (pv 1) (pa_cons pe_int pa_nil))))
      (pss_cons (ps_set (i := 4) sc_law.nd rfl (Or.inl rfl) (pe_lst pa_nil))
      (pss_cons (ps_set (i := 5) sc_law.nd rfl (Or.inl rfl) (pe_callP C_law_pick (hr.mono (by decide)) (by rfl) (passes_call (takes_of rfl rfl rfl rfl) fun _ _ _ _ z => z) (pa_cons (pv 1) (pa_cons pe_int pa_nil))))
      (Evl.pss_cut (ps_if (pt_cmpR op_lt (pv 5) pe_int (nomark _))
        (pss_one (ps_expr (pe_bm PySem.F.plainAttrs_list PySem.F.slot_list_append PySem.F.type_list_append mt_append (pv 4) (pa_cons (pe_op op_mod (pe_callTy call_int1 (by rfl) T.n.n_int (by decide +kernel) (pa_cons (pv 5) pa_nil)) pe_int) pa_nil))))
        (pss_one (ps_if (pt_cmpR op_eq (pv 5) pe_int (nomark _))
          (pss_one (ps_expr (pe_bm PySem.F.plainAttrs_list PySem.F.slot_list_append PySem.F.type_list_append mt_append (pv 4) (pa_cons (pe_op op_add pe_int (pe_callP C_law_pick (hr.mono (by decide)) (by rfl) (passes_call (takes_of rfl rfl rfl rfl) fun _ _ _ _ z => z) (pa_cons (pv 1) (pa_cons pe_int pa_nil)))) pa_nil))))
          pss_nil)))
      (pss_cons (ps_expr (pe_bm PySem.F.plainAttrs_list PySem.F.slot_list_extend PySem.F.type_list_extend mt_extend (pv 4) (pa_cons (pe_callP C_law_signs (hr.mono (by decide)) (by rfl) (passes_call (takes_of rfl rfl rfl rfl) fun _ _ _ _ z => z) (pa_cons (pv 1) (pa_cons (pe_callP C_law_pick (hr.mono (by decide)) (by rfl) (passes_call (takes_of rfl rfl rfl rfl) fun _ _ _ _ z => z) (pa_cons (pv 1) (pa_cons pe_int pa_nil))) pa_nil))) pa_nil)))
      (pss_cons (ps_set (i := 6) sc_law.nd rfl (Or.inl rfl) (pv 4))
      (Evl.pss_cut (ps_if (pt_cmpR op_eq (pe_callP C_law_pick (hr.mono (by decide)) (by rfl) (passes_call (takes_of rfl rfl rfl rfl) fun _ _ _ _ z => z) (pa_cons (pv 1) (pa_cons pe_int pa_nil))) pe_int (nomark _))
        (pss_one (ps_set (i := 6) sc_law.nd rfl (Or.inl rfl) (pe_callTy call_tuple_of (by rfl) T.n.n_tuple (by decide +kernel) (pa_cons (pv 4) pa_nil))))
        pss_nil)
      (Evl.pss_cut (ps_if (PW.pt (pw_and (pt_cmpR op_eq (pv 2) pe_int (nomark _)) (pw_and1 (pt_cmpR op_lt (pv 3) (pe_callB call_len (by rfl) T.n.n_len (by decide +kernel) (pa_cons (pv 4) pa_nil)) (nomark _)))))
        (pss_cons (ps_set (i := 7) sc_law.nd rfl (Or.inl rfl) (pe_callTy call_list_of (by rfl) T.n.n_list (by decide +kernel) (pa_cons (pv 4) pa_nil)))
        (pss_cons (ps_asg (pe_callP C_law_odd (hr.mono (by decide)) (by rfl) (passes_call (takes_of rfl rfl rfl rfl) fun _ _ _ _ z => z) (pa_cons (pv 1) pa_nil)) (pg_sub (pv 7) (pv 3) set_list))
        (pss_one (ps_set (i := 6) sc_law.nd rfl (Or.inl rfl) (pv 7)))))
        (pss_one (ps_if (pt_cmpR op_eq (pv 2) pe_int (nomark _))
          (pss_one (ps_set (i := 6) sc_law.nd rfl (Or.inl rfl) (pe_callP C_law_odd (hr.mono (by decide)) (by rfl) (passes_call (takes_of rfl rfl rfl rfl) fun _ _ _ _ z => z) (pa_cons (pv 1) pa_nil))))
          pss_nil)))
      (pss_cons (ps_set (i := 8) sc_law.nd rfl (Or.inl rfl) (pe_callB (call_repr hg hr.units) (by rfl) T.n.n_repr (by decide +kernel) (pa_cons (pv 6) pa_nil)))
      (pss_cons (ps_set (i := 9) sc_law.nd rfl (Or.inl rfl) (pe_cmpR op_eq (pe_ix ix_tup (pe_callP C_law_due (hr.mono (by decide)) (by rfl) (passes_call (takes_of rfl rfl rfl rfl) fun _ _ _ _ z => z) (pa_cons (pv 6) (pa_cons pe_str pa_nil))) pe_int (fun _ _ => rfl)) pe_str (nomark _)))
      (pss_cons (ps_if (pt_cmpR op_ne (pe_callB (call_repr hg hr.units) (by rfl) T.n.n_repr (by decide +kernel) (pa_cons (pe_callP C_is_thing (hr.mono (by decide)) (by rfl) (passes_call (takes_of rfl rfl rfl rfl) fun _ _ _ _ z => z) (pa_cons (pv 6) pa_nil)) pa_nil)) (pe_callB (call_repr hg hr.units) (by rfl) T.n.n_repr (by decide +kernel) (pa_cons (pv 9) pa_nil)) (nomark _))
        (pss_one (ps_ret pe_bl))
        pss_nil)
      (pss_cons (ps_for (passes_of rfl) rfl (pi_range1 (by rfl) T.n.n_range (pa_cons pe_int pa_nil)) (pg_name (i := 10) sc_law.nd rfl (Or.inl rfl))
        (pss_cons (ps_set (i := 11) sc_law.nd rfl (Or.inl rfl) (pe_lst (pa_cons (pe_callP C_law_try_form (hr.mono (by decide)) (by rfl) (passes_call (takes_of rfl rfl rfl rfl) fun _ _ _ _ z => z) (pa_cons (pv 6) pa_nil)) (pa_cons (pe_callP C_law_try_number (hr.mono (by decide)) (by rfl) (passes_call (takes_of rfl rfl rfl rfl) fun _ _ _ _ z => z) (pa_cons (pv 6) pa_nil)) (pa_cons (pe_callP C_law_try_body (hr.mono (by decide)) (by rfl) (passes_call (takes_of rfl rfl rfl rfl) fun _ _ _ _ z => z) (pa_cons (pv 6) pa_nil)) pa_nil)))))
        (pss_cons (ps_set (i := 12) sc_law.nd rfl (Or.inl rfl) (pe_lst (pa_cons (pe_callP C_law_due (hr.mono (by decide)) (by rfl) (passes_call (takes_of rfl rfl rfl rfl) fun _ _ _ _ z => z) (pa_cons (pv 6) (pa_cons pe_str pa_nil))) (pa_cons (pe_callP C_law_due (hr.mono (by decide)) (by rfl) (passes_call (takes_of rfl rfl rfl rfl) fun _ _ _ _ z => z) (pa_cons (pv 6) (pa_cons pe_str pa_nil))) (pa_cons (pe_callP C_law_due (hr.mono (by decide)) (by rfl) (passes_call (takes_of rfl rfl rfl rfl) fun _ _ _ _ z => z) (pa_cons (pv 6) (pa_cons pe_str pa_nil))) pa_nil)))))
        (pss_one (ps_if (PW.pt (pw_or (pt_cmpR (op_neL hr.units) (pv 11) (pv 12) (nomark _)) (pw_or1 (pt_cmpR op_ne (pe_callB (call_repr hg hr.units) (by rfl) T.n.n_repr (by decide +kernel) (pa_cons (pv 11) pa_nil)) (pe_callB (call_repr hg hr.units) (by rfl) T.n.n_repr (by decide +kernel) (pa_cons (pv 12) pa_nil)) (nomark _)))))
          (pss_one (ps_ret pe_bl))
          pss_nil)))))
      (pss_one (ps_ret (pe_and (pe_cmpR op_eq (pe_callB (call_repr hg hr.units) (by rfl) T.n.n_repr (by decide +kernel) (pa_cons (pv 6) pa_nil)) (pv 8) (nomark _)) (pe_one (pe_cmpR op_eq (pe_callB (call_repr hg hr.units) (by rfl) T.n.n_repr (by decide +kernel) (pa_cons (pe_callP C_is_thing (hr.mono (by decide)) (by rfl) (passes_call (takes_of rfl rfl rfl rfl) fun _ _ _ _ z => z) (pa_cons (pv 6) pa_nil)) pa_nil)) (pe_callB (call_repr hg hr.units) (by rfl) T.n.n_repr (by decide +kernel) (pa_cons (pv 9) pa_nil)) (nomark _)))))))))))))))))))), ?_⟩)
  · obtain ⟨a, ns, rfl, _⟩ := h
    rfl
  obtain ⟨a, ns, rfl, hS, hl, q⟩ := h
  refine ⟨_, rfl, a, ns, rfl, hS, hl, fun t c H1 nt s1 T1 => ?_⟩
  refine ⟨_, rfl, t, c, 3, rfl, by decide, by decide, T1, fun spoil H2 p0 p1 g2 => ?_⟩
  refine ⟨_, rfl, t, c, 6, rfl, by decide, by decide, g2.tape, fun place H3 q0 q1 g3 => ?_⟩
  refine ⟨Nat.zero_le _, fun pr npr => ?_⟩
  have ptr := g3.tape.there npr
  have T3 : TapeAt (upd H3 pr (.lst [])) t c := g3.tape.keeps (same_new npr)
  refine ⟨_, rfl, t, c, 8, rfl, by decide, by decide, T3, fun first H4 f0 f1 g4 => ?_⟩
  have r4 : H4 pr = some (.lst []) := g4.keep pr _ ptr.1 upd_same
  -- the first sign
  refine ⟨fun σ' H' => ∃ rs : List Int, σ' = [some (.ref a), some (.ref t), some (.int spoil), some (.int place), some (.ref pr), some (.int first), none, none, none, none, none, none, none] ∧ TapeAt H' t c ∧ H' pr = some (.lst (rs.map V.int)) ∧ Sgn rs ∧ rs.length ≤ 1, ?_, ?_⟩
  · have one : ∀ (z : Int) (H' : Hp), 0 ≤ z → z < 100 → TapeAt H' t c → H' pr = some (.lst []) → TapeAt (upd H' pr (.lst ([] ++ [V.int z]))) t c ∧ upd H' pr (.lst ([] ++ [V.int z])) pr = some (.lst ([z].map V.int)) ∧ Sgn [z] ∧ [z].length ≤ 1 := fun z H' z0 z1 T' _ =>
      ⟨T'.mut ptr, upd_same, fun y hy => by rw [List.mem_singleton.mp hy]; exact ⟨z0, z1⟩, Nat.le_refl 1⟩
    refine ⟨_, rfl, _, _, rfl, rfl, _, rfl, ?_⟩
    refine ite2 (fun _ => ?_) (fun _ => ?_)
    · refine ⟨_, rfl, .inl ⟨rfl, _, SqL.of r4⟩, _, rfl, .inl ⟨_, rfl, _, _, rfl, rfl, (show (0 : Int) < 5 by decide), pr, _, _, rfl, rfl, r4, by decide, ?_⟩⟩
      have z := one (first % 5) H4 (by omega) (by omega) g4.tape r4
      exact ⟨_, rfl, z.1, z.2.1, z.2.2.1, z.2.2.2⟩
    refine ⟨_, rfl, rfl, _, rfl, ?_⟩
    refine ite2 (fun _ => ?_) (fun _ => ?_)
    · refine ⟨_, rfl, .inl ⟨rfl, _, SqL.of r4⟩, _, rfl, t, c, 2, rfl, by decide, by decide, g4.tape, fun e H5 e0 e1 g5 => ⟨_, _, rfl, rfl, ?_⟩⟩
      have r5 := g5.keep pr _ ptr.1 r4
      refine ⟨pr, _, _, rfl, rfl, r5, by decide, ?_⟩
      have z := one (5 + e) H5 (by omega) (by omega) g5.tape r5
      exact ⟨_, rfl, z.1, z.2.1, z.2.2.1, z.2.2.2⟩
    · exact ⟨[], rfl, g4.tape, r4, fun y hy => (by cases hy), by decide⟩
  rintro σ' H5 ⟨rs, rfl, T5, r5, hrs, hrl⟩
  refine ⟨_, rfl, .inl ⟨rfl, _, SqL.of r5⟩, _, rfl, _, rfl, t, c, 6, rfl, by decide, by decide, T5, fun many H6 m0 m1 g6 => ?_⟩
  refine ⟨t, c, many, rfl, m0, by omega, g6.tape, fun pl bs H7 hbl hbs npl g7 hp => ?_⟩
  have r7 := g7.keep pr _ ptr.1 (g6.keep pr _ ptr.1 r5)
  refine ⟨pr, pl, _, _, rfl, rfl, r7, hp, ?_, ?_⟩
  · rw [List.length_map, List.length_map]
    exact Nat.le_trans (show rs.length + bs.length ≤ 10 by omega) (by decide)
  have T8 : TapeAt (upd H7 pr (.lst (rs.map V.int ++ bs.map V.int))) t c := g7.tape.mut ptr
  have r8 : upd H7 pr (.lst (rs.map V.int ++ bs.map V.int)) pr = some (.lst ((rs ++ bs).map V.int)) := by rw [upd_same, List.map_append]
  have hw : Sgn (rs ++ bs) := fun z hz => by
    rcases List.mem_append.mp hz with h | h
    · exact hrs z h
    · exact hbs z h
  have hwl : (rs ++ bs).length ≤ 7 := by rw [List.length_append]; omega
  generalize rs ++ bs = ws at r8 hw hwl
  generalize upd H7 pr (.lst (rs.map V.int ++ bs.map V.int)) = H8 at T8 r8 ⊢
  have fits : ∀ d, (d = .list (ws.map PyData.int) ∨ d = .tuple (ws.map PyData.int)) → Fn d 5000 3 ∧ (dItems d).length ≤ 10 := fun d hd => by
    have z2 : (ws.map PyData.int).length * (46 + 2) ≤ 7 * 48 := Nat.mul_le_mul_right _ (by rw [List.length_map]; exact hwl)
    rcases hd with rfl | rfl
    · exact ⟨(Fn.lst (Fn.ints hw.small)).le (by omega) (by decide), by show (ws.map PyData.int).length ≤ 10; rw [List.length_map]; omega⟩
    · exact ⟨(Fn.tup (Fn.ints hw.small)).le (by omega) (by decide), by show (ws.map PyData.int).length ≤ 10; rw [List.length_map]; omega⟩
  -- thing = row, or a tuple of it
  refine ⟨_, rfl, ?_⟩
  refine ⟨fun σ' H' => ∃ (v : V) (d : PyData), σ' = [some (.ref a), some (.ref t), some (.int spoil), some (.int place), some (.ref pr), some (.int first), some v, none, none, none, none, none, none] ∧ TapeAt H' t c ∧ H' pr = some (.lst (ws.map V.int)) ∧ Da K (off t H') v d ∧ (d = .list (ws.map PyData.int) ∨ d = .tuple (ws.map PyData.int)), ?_, ?_⟩
  · refine ⟨_, rfl, t, c, 2, rfl, by decide, by decide, T8, fun e H9 e0 e1 g9 => ?_⟩
    have r9 := g9.keep pr _ ptr.1 r8
    refine ⟨rfl, _, rfl, ?_⟩
    refine ite2 (fun _ => ?_) (fun _ => ?_)
    · refine ⟨_, rfl, pr, _, rfl, .inl ⟨SqL.of r9, fun pt np => ?_⟩⟩
      exact ⟨.ref pt, .tuple (ws.map PyData.int), rfl, g9.tape.keeps (same_new np), (same_new np) _ _ r9, .tup (off_of (g9.tape.there np).1 upd_same) (.ints ws), .inr rfl⟩
    · exact ⟨.ref pr, .list (ws.map PyData.int), rfl, g9.tape, r9, .lst (off_of ptr.1 r9) (.ints ws), .inl rfl⟩
  rintro σ' H9 ⟨v, d, rfl, T9, r9, hd9, hk9⟩
  -- what is spoilt
  refine ⟨fun σ' H' => ∃ (v : V) (d : PyData) (y7 : Option V), σ' = [some (.ref a), some (.ref t), some (.int spoil), some (.int place), some (.ref pr), some (.int first), some v, y7, none, none, none, none, none] ∧ Da K H' v d ∧ Fn d 5000 3 ∧ (dItems d).length ≤ 10, ?_, ?_⟩
  · refine ⟨_, rfl, rfl, _, rfl, ?_⟩
    by_cases c0 : spoil = 0
    · rw [show decide (V.int spoil = V.int 0) = true from decide_eq_true (by rw [c0])]
      refine iteT ⟨_, rfl, _, rfl, _, (ws.map V.int).length, rfl, .inl ⟨_, SqL.of r9, rfl⟩, _, _, rfl, rfl, _, rfl, ?_⟩
      refine ite2 (fun hlt => ?_) (fun _ => ?_)
      · refine ⟨_, rfl, pr, _, rfl, .inl (SqL.of r9), fun pb npb => ?_⟩
        have hpb : upd H9 pb (.lst (ws.map V.int)) pb = some (.lst (ws.map V.int)) := upd_same
        have ptb := T9.there npb
        have T10 := T9.keeps (same_new (o := .lst (ws.map V.int)) npb)
        generalize upd H9 pb (.lst (ws.map V.int)) = H10 at hpb T10 ⊢
        refine ⟨_, rfl, t, c, rfl, T10, fun vo dq H' ho hdo g => ?_⟩
        have hpb' := g.keep pb _ ptb.1 hpb
        obtain ⟨j, rfl⟩ := Int.eq_ofNat_of_zero_le q0
        have hj : j < (ws.map V.int).length := by simpa using hlt
        refine ⟨_, rfl, _, rfl, pb, _, _, j, rfl, rfl, hpb', ixN_nat hj, ?_⟩
        refine ⟨_, rfl, .ref pb, .list ((ws.map PyData.int).set j dq), _, rfl, .lst upd_same (DaAll.set j (.ints ws) (hdo.keep ((newer_upd (by rw [hpb]; exact fun z => nomatch z)).trans newer_le) dq vo)), ?_, ?_⟩
        · have hall : ∀ d ∈ (ws.map PyData.int).set j dq, Fn d 500 2 := fun d hd => by
            rcases List.mem_or_eq_of_mem_set hd with h | h
            · exact (Fn.ints hw.small d h).le (by decide) (by decide)
            · rw [h]
              exact ho.1
          have z2 : ((ws.map PyData.int).set j dq).length * (500 + 2) ≤ 7 * 502 := Nat.mul_le_mul_right _ (by rw [List.length_set, List.length_map]; exact hwl)
          exact (Fn.lst hall).le (by omega) (by decide)
        · show ((ws.map PyData.int).set j dq).length ≤ 10
          rw [List.length_set, List.length_map]
          omega
      · refine ⟨_, rfl, rfl, _, rfl, ?_⟩
        rw [show decide (V.int spoil = V.int 0) = true from decide_eq_true (by rw [c0])]
        exact iteT ⟨_, rfl, t, c, rfl, T9, fun vo dq H' ho hdo g => ⟨vo, dq, none, rfl, hdo.keep newer_le dq vo, ho.1.le (by decide) (by decide), Nat.le_trans ho.2 (by decide)⟩⟩
    · rw [show decide (V.int spoil = V.int 0) = false from decide_eq_false fun z => c0 (V.int.inj z)]
      refine iteF ⟨_, rfl, rfl, _, rfl, ?_⟩
      rw [show decide (V.int spoil = V.int 0) = false from decide_eq_false fun z => c0 (V.int.inj z)]
      exact iteF ⟨v, d, none, rfl, hd9.on, (fits d hk9).1, (fits d hk9).2⟩
  rintro σ' H10 ⟨v, d, y7, rfl, hd, hf, hi⟩
  have hi' : (dItems d).length ≤ 1000 := Nat.le_trans hi (by decide)
  refine ⟨_, rfl, v, d, rfl, hd, hf.show', Nat.le_trans hf.len (by decide), Nat.le_trans hf.dep (by decide), ?_⟩
  refine ⟨_, rfl, v, d, "form", rfl, hd, hi', .inl rfl, fun p1 H11 s11 res => ?_⟩
  obtain ⟨z1, e1⟩ := res.fst
  refine ⟨p1, _, 0, _, rfl, rfl, SqT.of e1, atI_nat (j := 0) rfl, rfl, ?_⟩
  have eg : decide (V.str (if dThing d = true then "told" else "refused") = V.str "told") = dThing d := by
    cases dThing d
    · exact decide_eq_false fun z => absurd (V.str.inj z) (by decide +kernel)
    · exact decide_eq_true rfl
  rw [eg]
  have hd11 := hd.keep s11 d v
  have shb : ∀ b : Bool, (PyData.bool b).showable = true ∧ (PyData.bool b).shown.length ≤ sizeLine ∧ (PyData.bool b).depth ≤ 50 := fun b => ⟨(Fn.bl b).show', Nat.le_trans (Fn.bl b).len (by decide), Nat.le_trans (Fn.bl b).dep (by decide)⟩
  have no : ∀ x : Str, (!decide (V.str x = V.str x)) = false := fun x => by simp
  refine ⟨_, rfl, v, d, rfl, hd11, fun H12 s12 => ?_⟩
  refine ⟨_, _, rfl, .bl _, (shb _).1, (shb _).2.1, (shb _).2.2, ?_⟩
  refine ⟨_, rfl, _, _, rfl, .bl _, (shb _).1, (shb _).2.1, (shb _).2.2, rfl, _, rfl, ?_⟩
  rw [no]
  refine iteF ?_
  have hd12 := hd11.keep s12 d v
  have told : ∀ what : Str, Fn (told1 d what) 10010 4 := told1_fn hd12 hf hi
  refine ⟨_, rfl, by decide, by decide, for_range (lo := 0) (n := 2) (fun i σ H' => ∃ y10 y11 y12, σ = [some (.ref a), some (.ref t), some (.int spoil), some (.int place), some (.ref pr), some (.int first), some v, y7, some (.str d.shown), some (.bl (dThing d)), y10, y11, y12] ∧ Same H12 H')
    ⟨none, none, none, rfl, .refl _⟩ ?_ ?_⟩
  · rintro i σ H13 hi2 ⟨y10, y11, y12, rfl, s13⟩
    have hd13 := hd12.keep s13 d v
    refine ⟨_, rfl, v, d, rfl, hd13, hi', fun pa Ha sa ra => ?_⟩
    refine ⟨_, rfl, v, d, rfl, hd13.keep sa d v, hi', fun pb Hb sb rb => ?_⟩
    have sab := sa.trans sb
    refine ⟨_, rfl, v, d, rfl, hd13.keep sab d v, hi', fun pc Hc sc rc => ?_⟩
    have sabc := sab.trans sc
    refine ⟨by show 3 ≤ sizeLine; decide, fun pf npf => ?_⟩
    have ef : upd Hc pf (.lst [.ref pa, .ref pb, .ref pc]) pf = some (.lst [.ref pa, .ref pb, .ref pc]) := upd_same
    have sf := same_new (o := .lst [.ref pa, .ref pb, .ref pc]) npf
    generalize upd Hc pf (.lst [.ref pa, .ref pb, .ref pc]) = Hf at ef sf ⊢
    have hdf := hd13.keep (sabc.trans sf) d v
    refine ⟨_, rfl, v, d, "form", rfl, hdf, hi', .inl rfl, fun qa Ja ta za => ?_⟩
    refine ⟨_, rfl, v, d, "number", rfl, hdf.keep ta d v, hi', .inr (.inl rfl), fun qb Jb tb zb => ?_⟩
    have tab := ta.trans tb
    refine ⟨_, rfl, v, d, "body", rfl, hdf.keep tab d v, hi', .inr (.inr rfl), fun qc Jc tc zc => ?_⟩
    have tabc := tab.trans tc
    refine ⟨by show 3 ≤ sizeLine; decide, fun pw npw => ?_⟩
    have ew : upd Jc pw (.lst [.ref qa, .ref qb, .ref qc]) pw = some (.lst [.ref qa, .ref qb, .ref qc]) := upd_same
    have sw := same_new (o := .lst [.ref qa, .ref qb, .ref qc]) npw
    generalize upd Jc pw (.lst [.ref qa, .ref qb, .ref qc]) = Jw at ew sw ⊢
    have efw : Jw pf = some (.lst [.ref pa, .ref pb, .ref pc]) := (tabc.trans sw) _ _ ef
    have ra' := ra.keep ((((sb.trans sc).trans sf).trans tabc).trans sw)
    have rb' := rb.keep (((sc.trans sf).trans tabc).trans sw)
    have rc' := rc.keep ((sf.trans tabc).trans sw)
    have za' := za.keep ((tb.trans tc).trans sw)
    have zb' := zb.keep (tc.trans sw)
    have zc' := zc.keep sw
    have hdw := hdf.keep (tabc.trans sw) d v
    refine ⟨_, rfl, _, rfl, ⟨2, by decide, .lst efw ew rfl fun i u w e1 e2 => ?_⟩, ?_⟩
    · match i, e1, e2 with
      | 0, e1, e2 =>
        cases e1
        cases e2
        exact ra'.al hdw.plain za'
      | 1, e1, e2 =>
        cases e1
        cases e2
        exact rb'.al hdw.plain zb'
      | 2, e1, e2 =>
        cases e1
        cases e2
        exact rc'.al hdw.plain zc'
    have three : Fn (.list [told1 d "form", told1 d "number", told1 d "body"]) 40000 5 := (Fn.lst (n := 10010) (k := 4) fun z hz => by
      rcases List.mem_cons.mp hz with e | hz
      · rw [e]
        exact told _
      rcases List.mem_cons.mp hz with e | hz
      · rw [e]
        exact told _
      · rw [List.mem_singleton.mp hz]
        exact told _).le (show 2 + 3 * (10010 + 2) ≤ 40000 by decide) (by decide)
    refine ⟨_, rfl, ?_⟩
    refine iteF ⟨_, rfl, .ref pf, .list [told1 d "form", told1 d "number", told1 d "body"], rfl, .lst efw (.cons (ra'.da hdw) (.cons (rb'.da hdw) (.cons (rc'.da hdw) .nil))), three.show', Nat.le_trans three.len (by decide), Nat.le_trans three.dep (by decide), ?_⟩
    refine ⟨_, rfl, .ref pw, .list [told1 d "form", told1 d "number", told1 d "body"], rfl, .lst ew (.cons (za'.da hdw) (.cons (zb'.da hdw) (.cons (zc'.da hdw) .nil))), three.show', Nat.le_trans three.len (by decide), Nat.le_trans three.dep (by decide), rfl, _, rfl, ?_⟩
    rw [no]
    exact iteF ⟨_, _, _, rfl, (((s13.trans sabc).trans sf).trans tabc).trans sw⟩
  · rintro σ H13 ⟨y10, y11, y12, rfl, s13⟩
    have hd13 := hd12.keep s13 d v
    refine ⟨_, rfl, v, d, rfl, hd13, hf.show', Nat.le_trans hf.len (by decide), Nat.le_trans hf.dep (by decide), ?_⟩
    refine ⟨_, rfl, rfl, true, by simp, iteT ?_⟩
    refine ⟨_, rfl, v, d, rfl, hd13, fun H14 s14 => ?_⟩
    refine ⟨_, _, rfl, .bl _, (shb _).1, (shb _).2.1, (shb _).2.2, ?_⟩
    refine ⟨_, rfl, _, _, rfl, .bl _, (shb _).1, (shb _).2.1, (shb _).2.2, rfl, ?_⟩
    rw [decide_eq_true rfl]
    exact q _
end
abbrev s_init : Stmt := inClass (top 1) 0
theorem sc_init : FnScope ["self", "value"] ["self", "value"] (defScope s_init) := ⟨rfl, rfl, rfl, by decide +kernel, rfl, by decide +kernel, by decide +kernel⟩
section
variable {P : Program} {w : World} {K : PySem.W.Frag} {mg : Str → Option Value} {base : Heap}
theorem ok_init {f : Addr} {fd : FuncData} (F : Fun K "__init__" "MadeError.__init__" s_init f fd) : FnOk P w K mg base (L2.CX P w) 1 f fd ["self", "value"] (spInit K) := by
  refine F.okX sc_init (fun vs H Q E h => ?_) (fun cdv A outer s H vs Q E hr h => ⟨_, (pss_one (ps_ost (pv 0) (pv 1))), ?_⟩)
  · obtain ⟨a, C, v, rfl, _⟩ := h
    rfl
  · obtain ⟨a, C, v, rfl, oC, vC, ha, q⟩ := h
    exact ⟨_, rfl, _, rfl, a, C, rfl, oC, vC, .inl ⟨ha, fun dx nx ne => q dx nx ne⟩⟩
end
theorem all_mk {l : PySem.W.OpenLaw} {w : World} {K : PySem.W.Frag} {h : Heap} {mg : Str → Option Value} {fa : Addr} (X : K.In h) (G : h.Ns mainGlobals mg) (hfa : mg "law" = some (.ref fa))
    {C_MadeError : Addr} {nm_MadeError : _} {q_MadeError : _} {N_MadeError : _} {bs_MadeError : _} {bm_MadeError : _} {sn_MadeError : _} {sub_MadeError : _} {ab_MadeError : _} {col_MadeError : _} {dd_MadeError : _} {k0_MadeError : _} {k1_MadeError : _} {k2_MadeError : _} {k3_MadeError : _} {k5_MadeError : _}
    (a_MadeError : PySem.W.nsIn K mainGlobals "MadeError" = some (some (.ref C_MadeError)))
    (l_MadeError : K.lookup C_MadeError = some (excClassObj nm_MadeError q_MadeError C_MadeError N_MadeError bs_MadeError bm_MadeError true sn_MadeError sub_MadeError ab_MadeError col_MadeError dd_MadeError k0_MadeError k1_MadeError k2_MadeError k3_MadeError k5_MadeError "ValueError.__new__")) (r_MadeError : PySem.HandSPX.refsVE bm_MadeError = true)
    (sa_MadeError : PySem.W.findIn K (.ref C_MadeError) "__setattr__" = some (some (.builtin "object.__setattr__"))) (ex_MadeError : PySem.W.subIn K (.ref C_MadeError) (.type "BaseException") = some true)
    (ty_MadeError : PySem.W.typeIn K (.ref C_MadeError) = some (.type "type")) (k_MadeError : PySem.W.keepIn K (.ref C_MadeError) = true)
    {f_init : Addr} {oc_init kV_init dc_init pm_init cd_init ct_init : Value} {od_init an_init : Option Addr} {sl_init : Array (Option Value)}
    (l_init : K.lookup f_init = some ⟨oc_init, od_init, .func (PySem.W.fnOf "__init__" "MadeError.__init__" (defArgs s_init) (defBody s_init) (defScope s_init) .none kV_init dc_init pm_init an_init cd_init ct_init), sl_init⟩)
    (c_init : PySem.W.codeIn K cd_init "MadeError.__init__" = true) (k_init : PySem.W.keepIn K (.ref f_init) = true)
    (t_init : PySem.W.typeIn K (.ref f_init) = some (.type "function"))
    (i_MadeError : PySem.W.findIn K (.ref C_MadeError) "__init__" = some (some (.ref f_init))) (v_MadeError : PySem.W.findIn K (.ref C_MadeError) "value" = some none)
    {C_BadRow : Addr} {nm_BadRow : _} {q_BadRow : _} {N_BadRow : _} {bs_BadRow : _} {bm_BadRow : _} {sn_BadRow : _} {sub_BadRow : _} {ab_BadRow : _} {col_BadRow : _} {dd_BadRow : _} {k0_BadRow : _} {k1_BadRow : _} {k2_BadRow : _} {k3_BadRow : _} {k5_BadRow : _}
    (a_BadRow : PySem.W.nsIn K mainGlobals "BadRow" = some (some (.ref C_BadRow)))
    (l_BadRow : K.lookup C_BadRow = some (excClassObj nm_BadRow q_BadRow C_BadRow N_BadRow bs_BadRow bm_BadRow true sn_BadRow sub_BadRow ab_BadRow col_BadRow dd_BadRow k0_BadRow k1_BadRow k2_BadRow k3_BadRow k5_BadRow "ValueError.__new__")) (r_BadRow : PySem.HandSPX.refsVE bm_BadRow = true)
    (sa_BadRow : PySem.W.findIn K (.ref C_BadRow) "__setattr__" = some (some (.builtin "object.__setattr__"))) (ex_BadRow : PySem.W.subIn K (.ref C_BadRow) (.type "BaseException") = some true)
    (ty_BadRow : PySem.W.typeIn K (.ref C_BadRow) = some (.type "type")) (k_BadRow : PySem.W.keepIn K (.ref C_BadRow) = true)
    (i_BadRow : PySem.W.findIn K (.ref C_BadRow) "__init__" = some (some (.ref f_init))) (v_BadRow : PySem.W.findIn K (.ref C_BadRow) "value" = some none)
    {C_BadThing : Addr} {nm_BadThing : _} {q_BadThing : _} {N_BadThing : _} {bs_BadThing : _} {bm_BadThing : _} {sn_BadThing : _} {sub_BadThing : _} {ab_BadThing : _} {col_BadThing : _} {dd_BadThing : _} {k0_BadThing : _} {k1_BadThing : _} {k2_BadThing : _} {k3_BadThing : _} {k5_BadThing : _}
    (a_BadThing : PySem.W.nsIn K mainGlobals "BadThing" = some (some (.ref C_BadThing)))
    (l_BadThing : K.lookup C_BadThing = some (excClassObj nm_BadThing q_BadThing C_BadThing N_BadThing bs_BadThing bm_BadThing true sn_BadThing sub_BadThing ab_BadThing col_BadThing dd_BadThing k0_BadThing k1_BadThing k2_BadThing k3_BadThing k5_BadThing "ValueError.__new__")) (r_BadThing : PySem.HandSPX.refsVE bm_BadThing = true)
    (sa_BadThing : PySem.W.findIn K (.ref C_BadThing) "__setattr__" = some (some (.builtin "object.__setattr__"))) (ex_BadThing : PySem.W.subIn K (.ref C_BadThing) (.type "BaseException") = some true)
    (ty_BadThing : PySem.W.typeIn K (.ref C_BadThing) = some (.type "type")) (k_BadThing : PySem.W.keepIn K (.ref C_BadThing) = true)
    (i_BadThing : PySem.W.findIn K (.ref C_BadThing) "__init__" = some (some (.ref f_init))) (v_BadThing : PySem.W.findIn K (.ref C_BadThing) "value" = some none)
    {t_SIGNS : _} (n_SIGNS : PySem.W.nsIn K mainGlobals "SIGNS" = some (some (.int 100 t_SIGNS)))
    {t_FORMS : _} (n_FORMS : PySem.W.nsIn K mainGlobals "FORMS" = some (some (.int 5 t_FORMS)))
    {t_SHIFT : _} (n_SHIFT : PySem.W.nsIn K mainGlobals "SHIFT" = some (some (.int 20 t_SHIFT)))
    (z_len : PySem.W.nsIn K mainGlobals "len" = some none)
    (z_int : PySem.W.nsIn K mainGlobals "int" = some none)
    (z_bool : PySem.W.nsIn K mainGlobals "bool" = some none)
    (z_str : PySem.W.nsIn K mainGlobals "str" = some none)
    (z_list : PySem.W.nsIn K mainGlobals "list" = some none)
    (z_tuple : PySem.W.nsIn K mainGlobals "tuple" = some none)
    (z_dict : PySem.W.nsIn K mainGlobals "dict" = some none)
    (z_range : PySem.W.nsIn K mainGlobals "range" = some none)
    (z_enumerate : PySem.W.nsIn K mainGlobals "enumerate" = some none)
    (z_isinstance : PySem.W.nsIn K mainGlobals "isinstance" = some none)
    (z_repr : PySem.W.nsIn K mainGlobals "repr" = some none)
    (z_ValueError : PySem.W.nsIn K mainGlobals "ValueError" = some none)
    (ga_BadThing : PySem.W.findIn K (.ref C_BadThing) "__getattribute__" = some (some (.builtin "BaseException.__getattribute__")))
    (gg_BadThing : PySem.W.findIn K (.ref C_BadThing) "__getattr__" = some none)
    (hd_BadThing : PySem.W.hasDictIn K C_BadThing = true)
    (cl_BadThing : PySem.W.isClsIn K C_BadThing = true)
    (hc_BadThing : PySem.W.findIn K (.ref C_BadThing) "__class__" = some (some (.builtin "object.__class__")))
    (hn_BadThing : PySem.W.specialIn K (.builtin "object.__class__") "__get__" = some (some (.builtin "getset_descriptor.__get__")))
    (ht_BadThing : PySem.W.takesIn K (.builtin "object.__class__") = some true)
    (hm_BadThing : PySem.W.mroIn K C_BadThing (.type "object") = some true)
    (sb1 : PySem.W.subIn K (.ref C_BadThing) (.ref C_BadThing) = some true)
    (kt1 : PySem.W.kitOne K (.ref C_BadThing) (.ref C_BadRow) = some false)
    (kt2 : PySem.W.kitOne K (.ref C_BadThing) (.ref C_MadeError) = some true)
    (kt3 : PySem.W.kitOne K (.ref C_BadThing) (.type "ValueError") = some true)
    {f_is_whole : Addr} {oc_is_whole kV_is_whole dc_is_whole pm_is_whole cd_is_whole ct_is_whole : Value} {od_is_whole an_is_whole : Option Addr} {sl_is_whole : Array (Option Value)}
    (a_is_whole : PySem.W.nsIn K mainGlobals "is_whole" = some (some (.ref f_is_whole)))
    (l_is_whole : K.lookup f_is_whole = some ⟨oc_is_whole, od_is_whole, .func (PySem.W.fnOf "is_whole" "is_whole" (defArgs s_is_whole) (defBody s_is_whole) (defScope s_is_whole) .none kV_is_whole dc_is_whole pm_is_whole an_is_whole cd_is_whole ct_is_whole), sl_is_whole⟩)
    (c_is_whole : PySem.W.codeIn K cd_is_whole "is_whole" = true) (k_is_whole : PySem.W.keepIn K (.ref f_is_whole) = true)
    {f_is_form : Addr} {oc_is_form kV_is_form dc_is_form pm_is_form cd_is_form ct_is_form : Value} {od_is_form an_is_form : Option Addr} {sl_is_form : Array (Option Value)}
    (a_is_form : PySem.W.nsIn K mainGlobals "is_form" = some (some (.ref f_is_form)))
    (l_is_form : K.lookup f_is_form = some ⟨oc_is_form, od_is_form, .func (PySem.W.fnOf "is_form" "is_form" (defArgs s_is_form) (defBody s_is_form) (defScope s_is_form) .none kV_is_form dc_is_form pm_is_form an_is_form cd_is_form ct_is_form), sl_is_form⟩)
    (c_is_form : PySem.W.codeIn K cd_is_form "is_form" = true) (k_is_form : PySem.W.keepIn K (.ref f_is_form) = true)
    {f_is_row : Addr} {oc_is_row kV_is_row dc_is_row pm_is_row cd_is_row ct_is_row : Value} {od_is_row an_is_row : Option Addr} {sl_is_row : Array (Option Value)}
    (a_is_row : PySem.W.nsIn K mainGlobals "is_row" = some (some (.ref f_is_row)))
    (l_is_row : K.lookup f_is_row = some ⟨oc_is_row, od_is_row, .func (PySem.W.fnOf "is_row" "is_row" (defArgs s_is_row) (defBody s_is_row) (defScope s_is_row) .none kV_is_row dc_is_row pm_is_row an_is_row cd_is_row ct_is_row), sl_is_row⟩)
    (c_is_row : PySem.W.codeIn K cd_is_row "is_row" = true) (k_is_row : PySem.W.keepIn K (.ref f_is_row) = true)
    {f_shifted : Addr} {oc_shifted kV_shifted dc_shifted pm_shifted cd_shifted ct_shifted : Value} {od_shifted an_shifted : Option Addr} {sl_shifted : Array (Option Value)}
    (a_shifted : PySem.W.nsIn K mainGlobals "shifted" = some (some (.ref f_shifted)))
    (l_shifted : K.lookup f_shifted = some ⟨oc_shifted, od_shifted, .func (PySem.W.fnOf "shifted" "shifted" (defArgs s_shifted) (defBody s_shifted) (defScope s_shifted) .none kV_shifted dc_shifted pm_shifted an_shifted cd_shifted ct_shifted), sl_shifted⟩)
    (c_shifted : PySem.W.codeIn K cd_shifted "shifted" = true) (k_shifted : PySem.W.keepIn K (.ref f_shifted) = true)
    {f_is_thing : Addr} {oc_is_thing kV_is_thing dc_is_thing pm_is_thing cd_is_thing ct_is_thing : Value} {od_is_thing an_is_thing : Option Addr} {sl_is_thing : Array (Option Value)}
    (a_is_thing : PySem.W.nsIn K mainGlobals "is_thing" = some (some (.ref f_is_thing)))
    (l_is_thing : K.lookup f_is_thing = some ⟨oc_is_thing, od_is_thing, .func (PySem.W.fnOf "is_thing" "is_thing" (defArgs s_is_thing) (defBody s_is_thing) (defScope s_is_thing) .none kV_is_thing dc_is_thing pm_is_thing an_is_thing cd_is_thing ct_is_thing), sl_is_thing⟩)
    (c_is_thing : PySem.W.codeIn K cd_is_thing "is_thing" = true) (k_is_thing : PySem.W.keepIn K (.ref f_is_thing) = true)
    {f_form_of : Addr} {oc_form_of kV_form_of dc_form_of pm_form_of cd_form_of ct_form_of : Value} {od_form_of an_form_of : Option Addr} {sl_form_of : Array (Option Value)}
    (a_form_of : PySem.W.nsIn K mainGlobals "form_of" = some (some (.ref f_form_of)))
    (l_form_of : K.lookup f_form_of = some ⟨oc_form_of, od_form_of, .func (PySem.W.fnOf "form_of" "form_of" (defArgs s_form_of) (defBody s_form_of) (defScope s_form_of) .none kV_form_of dc_form_of pm_form_of an_form_of cd_form_of ct_form_of), sl_form_of⟩)
    (c_form_of : PySem.W.codeIn K cd_form_of "form_of" = true) (k_form_of : PySem.W.keepIn K (.ref f_form_of) = true)
    {f_number_of : Addr} {oc_number_of kV_number_of dc_number_of pm_number_of cd_number_of ct_number_of : Value} {od_number_of an_number_of : Option Addr} {sl_number_of : Array (Option Value)}
    (a_number_of : PySem.W.nsIn K mainGlobals "number_of" = some (some (.ref f_number_of)))
    (l_number_of : K.lookup f_number_of = some ⟨oc_number_of, od_number_of, .func (PySem.W.fnOf "number_of" "number_of" (defArgs s_number_of) (defBody s_number_of) (defScope s_number_of) .none kV_number_of dc_number_of pm_number_of an_number_of cd_number_of ct_number_of), sl_number_of⟩)
    (c_number_of : PySem.W.codeIn K cd_number_of "number_of" = true) (k_number_of : PySem.W.keepIn K (.ref f_number_of) = true)
    {f_body_of : Addr} {oc_body_of kV_body_of dc_body_of pm_body_of cd_body_of ct_body_of : Value} {od_body_of an_body_of : Option Addr} {sl_body_of : Array (Option Value)}
    (a_body_of : PySem.W.nsIn K mainGlobals "body_of" = some (some (.ref f_body_of)))
    (l_body_of : K.lookup f_body_of = some ⟨oc_body_of, od_body_of, .func (PySem.W.fnOf "body_of" "body_of" (defArgs s_body_of) (defBody s_body_of) (defScope s_body_of) .none kV_body_of dc_body_of pm_body_of an_body_of cd_body_of ct_body_of), sl_body_of⟩)
    (c_body_of : PySem.W.codeIn K cd_body_of "body_of" = true) (k_body_of : PySem.W.keepIn K (.ref f_body_of) = true)
    {f_law_tape : Addr} {oc_law_tape kV_law_tape dc_law_tape pm_law_tape cd_law_tape ct_law_tape : Value} {od_law_tape an_law_tape : Option Addr} {sl_law_tape : Array (Option Value)}
    (a_law_tape : PySem.W.nsIn K mainGlobals "_law_tape" = some (some (.ref f_law_tape)))
    (l_law_tape : K.lookup f_law_tape = some ⟨oc_law_tape, od_law_tape, .func (PySem.W.fnOf "_law_tape" "_law_tape" (defArgs s_law_tape) (defBody s_law_tape) (defScope s_law_tape) .none kV_law_tape dc_law_tape pm_law_tape an_law_tape cd_law_tape ct_law_tape), sl_law_tape⟩)
    (c_law_tape : PySem.W.codeIn K cd_law_tape "_law_tape" = true) (k_law_tape : PySem.W.keepIn K (.ref f_law_tape) = true)
    {f_law_pick : Addr} {oc_law_pick kV_law_pick dc_law_pick pm_law_pick cd_law_pick ct_law_pick : Value} {od_law_pick an_law_pick : Option Addr} {sl_law_pick : Array (Option Value)}
    (a_law_pick : PySem.W.nsIn K mainGlobals "_law_pick" = some (some (.ref f_law_pick)))
    (l_law_pick : K.lookup f_law_pick = some ⟨oc_law_pick, od_law_pick, .func (PySem.W.fnOf "_law_pick" "_law_pick" (defArgs s_law_pick) (defBody s_law_pick) (defScope s_law_pick) .none kV_law_pick dc_law_pick pm_law_pick an_law_pick cd_law_pick ct_law_pick), sl_law_pick⟩)
    (c_law_pick : PySem.W.codeIn K cd_law_pick "_law_pick" = true) (k_law_pick : PySem.W.keepIn K (.ref f_law_pick) = true)
    {f_law_sign : Addr} {oc_law_sign kV_law_sign dc_law_sign pm_law_sign cd_law_sign ct_law_sign : Value} {od_law_sign an_law_sign : Option Addr} {sl_law_sign : Array (Option Value)}
    (a_law_sign : PySem.W.nsIn K mainGlobals "_law_sign" = some (some (.ref f_law_sign)))
    (l_law_sign : K.lookup f_law_sign = some ⟨oc_law_sign, od_law_sign, .func (PySem.W.fnOf "_law_sign" "_law_sign" (defArgs s_law_sign) (defBody s_law_sign) (defScope s_law_sign) .none kV_law_sign dc_law_sign pm_law_sign an_law_sign cd_law_sign ct_law_sign), sl_law_sign⟩)
    (c_law_sign : PySem.W.codeIn K cd_law_sign "_law_sign" = true) (k_law_sign : PySem.W.keepIn K (.ref f_law_sign) = true)
    {f_law_signs : Addr} {oc_law_signs kV_law_signs dc_law_signs pm_law_signs cd_law_signs ct_law_signs : Value} {od_law_signs an_law_signs : Option Addr} {sl_law_signs : Array (Option Value)}
    (a_law_signs : PySem.W.nsIn K mainGlobals "_law_signs" = some (some (.ref f_law_signs)))
    (l_law_signs : K.lookup f_law_signs = some ⟨oc_law_signs, od_law_signs, .func (PySem.W.fnOf "_law_signs" "_law_signs" (defArgs s_law_signs) (defBody s_law_signs) (defScope s_law_signs) .none kV_law_signs dc_law_signs pm_law_signs an_law_signs cd_law_signs ct_law_signs), sl_law_signs⟩)
    (c_law_signs : PySem.W.codeIn K cd_law_signs "_law_signs" = true) (k_law_signs : PySem.W.keepIn K (.ref f_law_signs) = true)
    {f_law_odd : Addr} {oc_law_odd kV_law_odd dc_law_odd pm_law_odd cd_law_odd ct_law_odd : Value} {od_law_odd an_law_odd : Option Addr} {sl_law_odd : Array (Option Value)}
    (a_law_odd : PySem.W.nsIn K mainGlobals "_law_odd" = some (some (.ref f_law_odd)))
    (l_law_odd : K.lookup f_law_odd = some ⟨oc_law_odd, od_law_odd, .func (PySem.W.fnOf "_law_odd" "_law_odd" (defArgs s_law_odd) (defBody s_law_odd) (defScope s_law_odd) .none kV_law_odd dc_law_odd pm_law_odd an_law_odd cd_law_odd ct_law_odd), sl_law_odd⟩)
    (c_law_odd : PySem.W.codeIn K cd_law_odd "_law_odd" = true) (k_law_odd : PySem.W.keepIn K (.ref f_law_odd) = true)
    {f_law_is_row : Addr} {oc_law_is_row kV_law_is_row dc_law_is_row pm_law_is_row cd_law_is_row ct_law_is_row : Value} {od_law_is_row an_law_is_row : Option Addr} {sl_law_is_row : Array (Option Value)}
    (a_law_is_row : PySem.W.nsIn K mainGlobals "_law_is_row" = some (some (.ref f_law_is_row)))
    (l_law_is_row : K.lookup f_law_is_row = some ⟨oc_law_is_row, od_law_is_row, .func (PySem.W.fnOf "_law_is_row" "_law_is_row" (defArgs s_law_is_row) (defBody s_law_is_row) (defScope s_law_is_row) .none kV_law_is_row dc_law_is_row pm_law_is_row an_law_is_row cd_law_is_row ct_law_is_row), sl_law_is_row⟩)
    (c_law_is_row : PySem.W.codeIn K cd_law_is_row "_law_is_row" = true) (k_law_is_row : PySem.W.keepIn K (.ref f_law_is_row) = true)
    {f_law_try_form : Addr} {oc_law_try_form kV_law_try_form dc_law_try_form pm_law_try_form cd_law_try_form ct_law_try_form : Value} {od_law_try_form an_law_try_form : Option Addr} {sl_law_try_form : Array (Option Value)}
    (a_law_try_form : PySem.W.nsIn K mainGlobals "_law_try_form" = some (some (.ref f_law_try_form)))
    (l_law_try_form : K.lookup f_law_try_form = some ⟨oc_law_try_form, od_law_try_form, .func (PySem.W.fnOf "_law_try_form" "_law_try_form" (defArgs s_law_try_form) (defBody s_law_try_form) (defScope s_law_try_form) .none kV_law_try_form dc_law_try_form pm_law_try_form an_law_try_form cd_law_try_form ct_law_try_form), sl_law_try_form⟩)
    (c_law_try_form : PySem.W.codeIn K cd_law_try_form "_law_try_form" = true) (k_law_try_form : PySem.W.keepIn K (.ref f_law_try_form) = true)
    {f_law_try_number : Addr} {oc_law_try_number kV_law_try_number dc_law_try_number pm_law_try_number cd_law_try_number ct_law_try_number : Value} {od_law_try_number an_law_try_number : Option Addr} {sl_law_try_number : Array (Option Value)}
    (a_law_try_number : PySem.W.nsIn K mainGlobals "_law_try_number" = some (some (.ref f_law_try_number)))
    (l_law_try_number : K.lookup f_law_try_number = some ⟨oc_law_try_number, od_law_try_number, .func (PySem.W.fnOf "_law_try_number" "_law_try_number" (defArgs s_law_try_number) (defBody s_law_try_number) (defScope s_law_try_number) .none kV_law_try_number dc_law_try_number pm_law_try_number an_law_try_number cd_law_try_number ct_law_try_number), sl_law_try_number⟩)
    (c_law_try_number : PySem.W.codeIn K cd_law_try_number "_law_try_number" = true) (k_law_try_number : PySem.W.keepIn K (.ref f_law_try_number) = true)
    {f_law_try_body : Addr} {oc_law_try_body kV_law_try_body dc_law_try_body pm_law_try_body cd_law_try_body ct_law_try_body : Value} {od_law_try_body an_law_try_body : Option Addr} {sl_law_try_body : Array (Option Value)}
    (a_law_try_body : PySem.W.nsIn K mainGlobals "_law_try_body" = some (some (.ref f_law_try_body)))
    (l_law_try_body : K.lookup f_law_try_body = some ⟨oc_law_try_body, od_law_try_body, .func (PySem.W.fnOf "_law_try_body" "_law_try_body" (defArgs s_law_try_body) (defBody s_law_try_body) (defScope s_law_try_body) .none kV_law_try_body dc_law_try_body pm_law_try_body an_law_try_body cd_law_try_body ct_law_try_body), sl_law_try_body⟩)
    (c_law_try_body : PySem.W.codeIn K cd_law_try_body "_law_try_body" = true) (k_law_try_body : PySem.W.keepIn K (.ref f_law_try_body) = true)
    {f_law_due : Addr} {oc_law_due kV_law_due dc_law_due pm_law_due cd_law_due ct_law_due : Value} {od_law_due an_law_due : Option Addr} {sl_law_due : Array (Option Value)}
    (a_law_due : PySem.W.nsIn K mainGlobals "_law_due" = some (some (.ref f_law_due)))
    (l_law_due : K.lookup f_law_due = some ⟨oc_law_due, od_law_due, .func (PySem.W.fnOf "_law_due" "_law_due" (defArgs s_law_due) (defBody s_law_due) (defScope s_law_due) .none kV_law_due dc_law_due pm_law_due an_law_due cd_law_due ct_law_due), sl_law_due⟩)
    (c_law_due : PySem.W.codeIn K cd_law_due "_law_due" = true) (k_law_due : PySem.W.keepIn K (.ref f_law_due) = true)
    {f_law : Addr} {oc_law kV_law dc_law pm_law cd_law ct_law : Value} {od_law an_law : Option Addr} {sl_law : Array (Option Value)}
    (a_law : PySem.W.nsIn K mainGlobals "law" = some (some (.ref f_law)))
    (l_law : K.lookup f_law = some ⟨oc_law, od_law, .func (PySem.W.fnOf "law" "law" (defArgs s_law) (defBody s_law) (defScope s_law) .none kV_law dc_law pm_law an_law cd_law ct_law), sl_law⟩)
    (c_law : PySem.W.codeIn K cd_law "law" = true) (k_law : PySem.W.keepIn K (.ref f_law) = true) :
    ∃ fd : FuncData, (∀ (s : Shared) (v : Value), BindsTo s fd ⟨[v], []⟩ [("script", v)]) ∧ ∀ base : Heap, K.In base → base.Ns mainGlobals mg → FnG l.prog w K mg base 8 fa fd ["script"] (spLaw K) := by
  have e := hfa.symm.trans (PySem.W.mg_of X G a_law)
  cases e
  have T : Tx K mg f_init C_MadeError C_BadRow C_BadThing := ⟨⟨PySem.W.mg_none_of X G z_len, PySem.W.mg_none_of X G z_int, PySem.W.mg_none_of X G z_bool, PySem.W.mg_none_of X G z_str, PySem.W.mg_none_of X G z_list, PySem.W.mg_none_of X G z_tuple, PySem.W.mg_none_of X G z_dict, PySem.W.mg_none_of X G z_range, PySem.W.mg_none_of X G z_enumerate, PySem.W.mg_none_of X G z_isinstance, PySem.W.mg_none_of X G z_repr, PySem.W.mg_none_of X G z_ValueError⟩, ⟨_, PySem.W.mg_of X G n_SIGNS⟩, ⟨_, PySem.W.mg_of X G n_FORMS⟩, ⟨_, PySem.W.mg_of X G n_SHIFT⟩, ⟨PySem.W.mg_of X G a_MadeError, ⟨⟨_, _, _, _, _, _, _, _, _, _, _, _, _, _, _, l_MadeError, r_MadeError⟩, sa_MadeError, ex_MadeError, ty_MadeError, k_MadeError⟩, i_MadeError, v_MadeError⟩, ⟨PySem.W.mg_of X G a_BadRow, ⟨⟨_, _, _, _, _, _, _, _, _, _, _, _, _, _, _, l_BadRow, r_BadRow⟩, sa_BadRow, ex_BadRow, ty_BadRow, k_BadRow⟩, i_BadRow, v_BadRow⟩, ⟨PySem.W.mg_of X G a_BadThing, ⟨⟨_, _, _, _, _, _, _, _, _, _, _, _, _, _, _, l_BadThing, r_BadThing⟩, sa_BadThing, ex_BadThing, ty_BadThing, k_BadThing⟩, i_BadThing, v_BadThing⟩, ⟨⟨ga_BadThing, gg_BadThing, ex_BadThing, hd_BadThing⟩, cl_BadThing, hc_BadThing, hn_BadThing, ht_BadThing, hm_BadThing, v_BadThing⟩, PySem.W.exm_ref ex_BadThing hd_BadThing ty_BadThing sb1, kt1, kt2, kt3⟩
  have F_init := fun_mk (x := "__init__") (qual := "MadeError.__init__") (st := s_init) l_init c_init k_init
  have b_init := F_init.binds (ps := ["self", "value"]) fun _ _ _ _ _ _ us hl => match us, hl with | [_, _], _ => rfl
  have D_is_whole : Dx K mg "is_whole" s_is_whole ["value"] := dx_mk X G a_is_whole l_is_whole c_is_whole k_is_whole fun _ _ _ _ _ _ us hl => match us, hl with | [_], _ => rfl
  have D_is_form : Dx K mg "is_form" s_is_form ["value"] := dx_mk X G a_is_form l_is_form c_is_form k_is_form fun _ _ _ _ _ _ us hl => match us, hl with | [_], _ => rfl
  have D_is_row : Dx K mg "is_row" s_is_row ["value"] := dx_mk X G a_is_row l_is_row c_is_row k_is_row fun _ _ _ _ _ _ us hl => match us, hl with | [_], _ => rfl
  have D_shifted : Dx K mg "shifted" s_shifted ["row", "by"] := dx_mk X G a_shifted l_shifted c_shifted k_shifted fun _ _ _ _ _ _ us hl => match us, hl with | [_, _], _ => rfl
  have D_is_thing : Dx K mg "is_thing" s_is_thing ["row"] := dx_mk X G a_is_thing l_is_thing c_is_thing k_is_thing fun _ _ _ _ _ _ us hl => match us, hl with | [_], _ => rfl
  have D_form_of : Dx K mg "form_of" s_form_of ["thing"] := dx_mk X G a_form_of l_form_of c_form_of k_form_of fun _ _ _ _ _ _ us hl => match us, hl with | [_], _ => rfl
  have D_number_of : Dx K mg "number_of" s_number_of ["thing"] := dx_mk X G a_number_of l_number_of c_number_of k_number_of fun _ _ _ _ _ _ us hl => match us, hl with | [_], _ => rfl
  have D_body_of : Dx K mg "body_of" s_body_of ["thing"] := dx_mk X G a_body_of l_body_of c_body_of k_body_of fun _ _ _ _ _ _ us hl => match us, hl with | [_], _ => rfl
  have D_law_tape : Dx K mg "_law_tape" s_law_tape ["script"] := dx_mk X G a_law_tape l_law_tape c_law_tape k_law_tape fun _ _ _ _ _ _ us hl => match us, hl with | [_], _ => rfl
  have D_law_pick : Dx K mg "_law_pick" s_law_pick ["tape", "size"] := dx_mk X G a_law_pick l_law_pick c_law_pick k_law_pick fun _ _ _ _ _ _ us hl => match us, hl with | [_, _], _ => rfl
  have D_law_sign : Dx K mg "_law_sign" s_law_sign ["tape"] := dx_mk X G a_law_sign l_law_sign c_law_sign k_law_sign fun _ _ _ _ _ _ us hl => match us, hl with | [_], _ => rfl
  have D_law_signs : Dx K mg "_law_signs" s_law_signs ["tape", "many"] := dx_mk X G a_law_signs l_law_signs c_law_signs k_law_signs fun _ _ _ _ _ _ us hl => match us, hl with | [_, _], _ => rfl
  have D_law_odd : Dx K mg "_law_odd" s_law_odd ["tape"] := dx_mk X G a_law_odd l_law_odd c_law_odd k_law_odd fun _ _ _ _ _ _ us hl => match us, hl with | [_], _ => rfl
  have D_law_is_row : Dx K mg "_law_is_row" s_law_is_row ["thing"] := dx_mk X G a_law_is_row l_law_is_row c_law_is_row k_law_is_row fun _ _ _ _ _ _ us hl => match us, hl with | [_], _ => rfl
  have D_law_try_form : Dx K mg "_law_try_form" s_law_try_form ["thing"] := dx_mk X G a_law_try_form l_law_try_form c_law_try_form k_law_try_form fun _ _ _ _ _ _ us hl => match us, hl with | [_], _ => rfl
  have D_law_try_number : Dx K mg "_law_try_number" s_law_try_number ["thing"] := dx_mk X G a_law_try_number l_law_try_number c_law_try_number k_law_try_number fun _ _ _ _ _ _ us hl => match us, hl with | [_], _ => rfl
  have D_law_try_body : Dx K mg "_law_try_body" s_law_try_body ["thing"] := dx_mk X G a_law_try_body l_law_try_body c_law_try_body k_law_try_body fun _ _ _ _ _ _ us hl => match us, hl with | [_], _ => rfl
  have D_law_due : Dx K mg "_law_due" s_law_due ["thing", "what"] := dx_mk X G a_law_due l_law_due c_law_due k_law_due fun _ _ _ _ _ _ us hl => match us, hl with | [_, _], _ => rfl
  have F_law := fun_mk (x := "law") (qual := "law") (st := s_law) l_law c_law k_law
  refine ⟨PySem.W.fnOf "law" "law" (defArgs s_law) (defBody s_law) (defScope s_law) .none kV_law dc_law pm_law an_law cd_law ct_law, fun s v => .of_eq rfl, fun base KB GB => ?_⟩
  have C_init : InitOk l.prog w K mg base 1 f_init := ⟨t_init, _, b_init, ok_init F_init⟩
  have C_is_whole : Pr l.prog w K mg base 1 "is_whole" ["value"] (spD K dWhole) := ok_is_whole T D_is_whole 
  have C_is_form : Pr l.prog w K mg base 2 "is_form" ["value"] (spD K dForm) := ok_is_form T D_is_form C_is_whole
  have C_is_row : Pr l.prog w K mg base 3 "is_row" ["value"] (spD K dRow) := ok_is_row T D_is_row 
  have C_shifted : Pr l.prog w K mg base 1 "shifted" ["row", "by"] (spShifted K) := ok_shifted T D_shifted 
  have C_is_thing : Pr l.prog w K mg base 4 "is_thing" ["row"] (spD K dThing) := ok_is_thing T D_is_thing C_is_row C_is_form
  have C_form_of : Pr l.prog w K mg base 5 "form_of" ["thing"] (spThing1 K C_BadThing dFst) := ok_form_of T D_form_of C_is_thing C_init
  have C_number_of : Pr l.prog w K mg base 5 "number_of" ["thing"] (spThing1 K C_BadThing dSnd) := ok_number_of T D_number_of C_is_thing C_init
  have C_body_of : Pr l.prog w K mg base 6 "body_of" ["thing"] (spBodyOf K C_BadThing) := ok_body_of T D_body_of C_form_of C_shifted
  have C_law_tape : Pr l.prog w K mg base 1 "_law_tape" ["script"] (spTape K) := ok_law_tape T D_law_tape 
  have C_law_pick : Pr l.prog w K mg base 1 "_law_pick" ["tape", "size"] spPick := ok_law_pick T D_law_pick 
  have C_law_sign : Pr l.prog w K mg base 2 "_law_sign" ["tape"] spSign := ok_law_sign T D_law_sign C_law_pick
  have C_law_signs : Pr l.prog w K mg base 3 "_law_signs" ["tape", "many"] spSigns := ok_law_signs T D_law_signs C_law_sign
  have C_law_odd : Pr l.prog w K mg base 2 "_law_odd" ["tape"] (spOdd K) := ok_law_odd T D_law_odd C_law_pick
  have C_law_is_row : Pr l.prog w K mg base 1 "_law_is_row" ["thing"] (spD K dRow) := ok_law_is_row T D_law_is_row 
  have C_law_try_form : Pr l.prog w K mg base 6 "_law_try_form" ["thing"] (spTry K "form") := ok_law_try_form T D_law_try_form C_form_of
  have C_law_try_number : Pr l.prog w K mg base 6 "_law_try_number" ["thing"] (spTry K "number") := ok_law_try_number T D_law_try_number C_number_of
  have C_law_try_body : Pr l.prog w K mg base 7 "_law_try_body" ["thing"] (spTry K "body") := ok_law_try_body T D_law_try_body C_body_of
  have C_law_due : Pr l.prog w K mg base 2 "_law_due" ["thing", "what"] (spDue K) := ok_law_due T D_law_due C_law_is_row
  exact ok_law T F_law C_law_tape C_law_pick C_law_signs C_law_odd C_law_due C_is_thing C_law_try_form C_law_try_number C_law_try_body
theorem walk {l : PySem.W.OpenLaw} {q : Program} {loose : List Str} {XP : (Str → Option Value) → Heap → Prop} {YP : World → Heap → Prop} {d : DefRec} {K : Params → PySem.W.Frag} (hn : l.most = some 63) (hdf : d.params.defaults = [])
    (hY : ∀ (w : World) (h : Heap), YP w h → (K w.params).In h)
    (F : ∀ (w : World) (mg : Str → Option Value) (fa : Addr) (h : Heap), (K w.params).In h → h.Ns mainGlobals mg → mg d.name = some (.ref fa) →
      ∃ fd : FuncData, (∀ (s : Shared) (u : Value), BindsTo s fd ⟨[u], []⟩ [("script", u)]) ∧ ∀ base : Heap, (K w.params).In base → base.Ns mainGlobals mg → FnG l.prog w (K w.params) mg base 8 fa fd ["script"] (spLaw (K w.params))) :
    PySem.W.WalkO q loose XP YP l.row.toRowW d [] (fun f vs => PySem.call f vs) :=
  walk_ofG (n := 63) (k := 8) (x := "script") (sp := fun w => spLaw (K w.params)) hn (by decide) hdf ⟨rfl, by decide, by decide⟩ hY F (fun _ _ a ns hl _ _ hS => ⟨a, ns, rfl, hS, hl, fun _ => rfl⟩)
end My

open PySem PySem.W PyProof.Rows in
set_option maxRecDepth 100000 in
set_option maxHeartbeats 0 in
theorem PySem.Challenge.cw_trulymade_k00_forms_and_scraps_holds : PySem.Challenge.rw_trulymade_k00_forms_and_scraps.Holds := by
  w_on; o_law; k_head; (case hw => w_witness2)
  k_fill
  refine My.walk (l := PySem.Challenge.rw_trulymade_k00_forms_and_scraps) rfl rfl (fun w h Y => PySem.W.kIn_of Y) ?F
  case F =>
    intro w mg fa h KX G hmg
    refine' My.all_mk KX G hmg ?a_MadeError ?l_MadeError ?r_MadeError ?sa_MadeError ?ex_MadeError ?ty_MadeError ?k_MadeError ?l_init ?c_init ?k_init ?t_init ?i_MadeError ?v_MadeError ?a_BadRow ?l_BadRow ?r_BadRow ?sa_BadRow ?ex_BadRow ?ty_BadRow ?k_BadRow ?i_BadRow ?v_BadRow ?a_BadThing ?l_BadThing ?r_BadThing ?sa_BadThing ?ex_BadThing ?ty_BadThing ?k_BadThing ?i_BadThing ?v_BadThing ?n_SIGNS ?n_FORMS ?n_SHIFT ?z_len ?z_int ?z_bool ?z_str ?z_list ?z_tuple ?z_dict ?z_range ?z_enumerate ?z_isinstance ?z_repr ?z_ValueError ?ga_BadThing ?gg_BadThing ?hd_BadThing ?cl_BadThing ?hc_BadThing ?hn_BadThing ?ht_BadThing ?hm_BadThing ?sb1 ?kt1 ?kt2 ?kt3 ?a_is_whole ?l_is_whole ?c_is_whole ?k_is_whole ?a_is_form ?l_is_form ?c_is_form ?k_is_form ?a_is_row ?l_is_row ?c_is_row ?k_is_row ?a_shifted ?l_shifted ?c_shifted ?k_shifted ?a_is_thing ?l_is_thing ?c_is_thing ?k_is_thing ?a_form_of ?l_form_of ?c_form_of ?k_form_of ?a_number_of ?l_number_of ?c_number_of ?k_number_of ?a_body_of ?l_body_of ?c_body_of ?k_body_of ?a_law_tape ?l_law_tape ?c_law_tape ?k_law_tape ?a_law_pick ?l_law_pick ?c_law_pick ?k_law_pick ?a_law_sign ?l_law_sign ?c_law_sign ?k_law_sign ?a_law_signs ?l_law_signs ?c_law_signs ?k_law_signs ?a_law_odd ?l_law_odd ?c_law_odd ?k_law_odd ?a_law_is_row ?l_law_is_row ?c_law_is_row ?k_law_is_row ?a_law_try_form ?l_law_try_form ?c_law_try_form ?k_law_try_form ?a_law_try_number ?l_law_try_number ?c_law_try_number ?k_law_try_number ?a_law_try_body ?l_law_try_body ?c_law_try_body ?k_law_try_body ?a_law_due ?l_law_due ?c_law_due ?k_law_due ?a_law ?l_law ?c_law ?k_law
    (case a_MadeError => k_is)
    (case i_MadeError => k_is)
    (case l_MadeError => k_is)
    (case r_MadeError => decide +kernel)
    (case sa_MadeError => k_is)
    (case ex_MadeError => k_is)
    (case ty_MadeError => k_is)
    (case k_MadeError => k_is)
    (case l_init => k_is)
    (case c_init => k_is)
    (case k_init => k_is)
    (case t_init => k_is)
    (case v_MadeError => k_is)
    (case a_BadRow => k_is)
    (case l_BadRow => k_is)
    (case r_BadRow => decide +kernel)
    (case sa_BadRow => k_is)
    (case ex_BadRow => k_is)
    (case ty_BadRow => k_is)
    (case k_BadRow => k_is)
    (case i_BadRow => k_is)
    (case v_BadRow => k_is)
    (case a_BadThing => k_is)
    (case l_BadThing => k_is)
    (case r_BadThing => decide +kernel)
    (case sa_BadThing => k_is)
    (case ex_BadThing => k_is)
    (case ty_BadThing => k_is)
    (case k_BadThing => k_is)
    (case i_BadThing => k_is)
    (case v_BadThing => k_is)
    (case n_SIGNS => k_is)
    (case n_FORMS => k_is)
    (case n_SHIFT => k_is)
    (case z_len => k_is)
    (case z_int => k_is)
    (case z_bool => k_is)
    (case z_str => k_is)
    (case z_list => k_is)
    (case z_tuple => k_is)
    (case z_dict => k_is)
    (case z_range => k_is)
    (case z_enumerate => k_is)
    (case z_isinstance => k_is)
    (case z_repr => k_is)
    (case z_ValueError => k_is)
    (case ga_BadThing => k_is)
    (case gg_BadThing => k_is)
    (case hd_BadThing => k_is)
    (case cl_BadThing => k_is)
    (case hc_BadThing => k_is)
    (case hn_BadThing => k_is)
    (case ht_BadThing => k_is)
    (case hm_BadThing => k_is)
    (case sb1 => k_is)
    (case kt1 => kit_is)
    (case kt2 => kit_is)
    (case kt3 => kit_is)
    (case a_is_whole => k_is)
    (case l_is_whole => k_is)
    (case c_is_whole => k_is)
    (case k_is_whole => k_is)
    (case a_is_form => k_is)
    (case l_is_form => k_is)
    (case c_is_form => k_is)
    (case k_is_form => k_is)
    (case a_is_row => k_is)
    (case l_is_row => k_is)
    (case c_is_row => k_is)
    (case k_is_row => k_is)
    (case a_shifted => k_is)
    (case l_shifted => k_is)
    (case c_shifted => k_is)
    (case k_shifted => k_is)
    (case a_is_thing => k_is)
    (case l_is_thing => k_is)
    (case c_is_thing => k_is)
    (case k_is_thing => k_is)
    (case a_form_of => k_is)
    (case l_form_of => k_is)
    (case c_form_of => k_is)
    (case k_form_of => k_is)
    (case a_number_of => k_is)
    (case l_number_of => k_is)
    (case c_number_of => k_is)
    (case k_number_of => k_is)
    (case a_body_of => k_is)
    (case l_body_of => k_is)
    (case c_body_of => k_is)
    (case k_body_of => k_is)
    (case a_law_tape => k_is)
    (case l_law_tape => k_is)
    (case c_law_tape => k_is)
    (case k_law_tape => k_is)
    (case a_law_pick => k_is)
    (case l_law_pick => k_is)
    (case c_law_pick => k_is)
    (case k_law_pick => k_is)
    (case a_law_sign => k_is)
    (case l_law_sign => k_is)
    (case c_law_sign => k_is)
    (case k_law_sign => k_is)
    (case a_law_signs => k_is)
    (case l_law_signs => k_is)
    (case c_law_signs => k_is)
    (case k_law_signs => k_is)
    (case a_law_odd => k_is)
    (case l_law_odd => k_is)
    (case c_law_odd => k_is)
    (case k_law_odd => k_is)
    (case a_law_is_row => k_is)
    (case l_law_is_row => k_is)
    (case c_law_is_row => k_is)
    (case k_law_is_row => k_is)
    (case a_law_try_form => k_is)
    (case l_law_try_form => k_is)
    (case c_law_try_form => k_is)
    (case k_law_try_form => k_is)
    (case a_law_try_number => k_is)
    (case l_law_try_number => k_is)
    (case c_law_try_number => k_is)
    (case k_law_try_number => k_is)
    (case a_law_try_body => k_is)
    (case l_law_try_body => k_is)
    (case c_law_try_body => k_is)
    (case k_law_try_body => k_is)
    (case a_law_due => k_is)
    (case l_law_due => k_is)
    (case c_law_due => k_is)
    (case k_law_due => k_is)
    (case a_law => k_is)
    (case l_law => k_is)
    (case c_law => k_is)
    (case k_law => k_is)
