import PyProof.Rows.All
import Wide.All
import OpenK.AllK
import Wide.FinOn
import HandS.ForMost
import HandS.Exc
import HandS.TryOnly
import HandS.ExcOwn
import HandS.WordsExc
import HandS.IsInst
import HandS.ExcIs
import HandS.ExcCtx
import HandS.HotCalls
import HandS.SetFor
import HandS.More
import HandS.Conv
import HandS.FStr
import HandS.Walk
import HandS.Flow
import HandS.TupAny
import HandS.TupLe
import HandS.Steps
import HandS.Zip
import HandS.DictComp
import PyProof.Rows.SetFrom
import PyProof.SetRoads
import PyProof.P3Eq
import HandS.ListItems
import HandS.CallSlots
import PyProof.DictMoreH
import KE.KDictList
import HandS.SetBool
import HandS.SetKeys
import HandS.Codes
import HandS.Style
import HandS.DeepEq
import PyProof.NeKinds
import HandS.SortRule
import HandS.Deep
import HandS.SuiteRaise
import HandS.Finally
import PySem.Challenge.RW_latehouse_k06_an_honest_house
set_option Elab.async false
set_option linter.all false
set_option maxRecDepth 100000
set_option maxHeartbeats 4000000
/-! own rules beside the layer's: a caught error handed to a def, its isinstance, count, value calls -/
namespace LH
open PySem PySem.Spec PyProof.Rows L2
abbrev St := L2.St

/-! ### isinstance of the error that a context bears -/
theorem call_isP {X : Cx} {a D : Addr} {oe : Obj} (C : ExcC X.K D) (hp : (a, oe) ∈ X.pn) (hz : Zc (.ref D) none oe)
    (hf : ∃ vs, oe.data = .fields vs) : CallR X (.builtin "isinstance") (rIsE X.K D a) := by
  intro pins s σ H xs us Q I r h
  obtain ⟨c, cv, b, rfl, hcv, e, q⟩ := h
  match us, r with
  | [_, _], .cons rx (.cons rt .nil) =>
    cases rx
    have ec := hcv _ rt
    subst ec
    have hget := (I.pin (a, oe) (List.mem_append_left _ hp)).1
    obtain ⟨vs, hv⟩ := hf
    have J : PySem.W.InstAt s.heap a oe D none := by
      refine ⟨hget, hz.1, ?_, ?_⟩
      · unfold PySem.W.notCls; rw [hv] <;> rfl
      · rw [hz.2]; trivial
    exact PySem.W.kia_one (PySem.W.handS_kitx_exc C.hg C.hk C.hs C.hd C.ha C.hn C.ht C.hm) I.kIn J e
      (fun z => nomatch z) fun tk => ⟨.bl b, H, I.kept (t' := tk) fun _ _ z => z, rfl, q⟩

/-! ### a def that is handed the error that is handled -/
/-- the error's address, its class, its dict, then as Sp -/
abbrev SpE := Addr → Value → Option Addr → List V → Hp → VK → Prop
structure FnE (P : Program) (w : World) (K : PySem.W.Frag) (mg : Str → Option Value) (base : Heap) (k : Nat) (f : Addr)
    (fd : FuncData) (ps : List Str) (sp : SpE) : Prop where
  len : ∀ e cls d vs H Q, sp e cls d vs H Q → vs.length = ps.length
  run : ∀ (A : Around) (outer : List Env) (s : Shared) (H : Hp) (us : List Value) (vs : List V) (Q : VK) (p : Addr × Obj) (cls : Value) (d : Option Addr),
    L2H.RoomH k A → L2H.Hot1 A p → L2N.Zn cls d p.2 → L2H.PinOk outer H s p → Env0 P w K mg base A outer s H → BindsTo s fd ⟨us, []⟩ (ps.zip us) →
    Vals vs us → sp p.1 cls d vs H Q → codeAny (model P w) A (.call (.ref f) ⟨us, []⟩) (CR CX0 outer P w H s Q E0) s

theorem fnE_of {P : Program} {w : World} {K : PySem.W.Frag} {mg : Str → Option Value} {base : Heap} {x qual : Str} {st : Stmt}
    {f : Addr} {fd : FuncData} {N ps : List Str} {k : Nat} {sp : SpE} (F : Fun K x qual st f fd) (S : FnScope N ps (defScope st))
    (len : ∀ e cls d vs H Q, sp e cls d vs H Q → vs.length = ps.length)
    (hbody : ∀ (cdv : Value) (A : Around) (outer : List Env) (s : Shared) (H : Hp) (vs : List V) (Q : VK) (p : Addr × Obj) (cls : Value) (d : Option Addr),
      L2H.Hot1 A p → L2N.Zn cls d p.2 → L2H.RoomH k (A.deeper (envOfC qual (defScope st) s.heap.objs.size f cdv)) → sp p.1 cls d vs H Q →
      ∃ t, PSs (L2H.cxH CX0 P w K mg base N qual (defScope st) f cdv A outer s H E0 p) (defBody st) t ∧
        t { nx := fun _ H' => Q .non H', rt := Q } (L2.start N vs) H) :
    FnE P w K mg base (k + 1) f fd ps sp := by
  obtain ⟨oc, od, kV, doc, pm, an, cdv, ct, osl, rfl, lk, hcd⟩ := F.ex
  refine ⟨len, ?_⟩
  intro A outer s H us vs Q p cls d hr hot hz hpin e0 hb r hsp
  have inS : K.In s.heap := e0.mod.kin.keeps fun b o e => (e0.bs b o e).1
  have lim : s.heap.NoLimit := e0.mod.nolimit.keeps fun b o e => (e0.bs b o e).1
  have hkd : ∀ y ∈ ps.zip us, (defScope st).names.lookup y.1 = some .local ∨ ((defScope st).names.lookup y.1 = some .cell ∧
      ((cellsFrom (s.heap.objs.size + 1) (defScope st).names []).lookup y.1).isSome = true) := by
    rintro ⟨n, v⟩ hy
    rcases S.par n (List.of_mem_zip hy).1 with q | q
    · exact Or.inl q
    · exact Or.inr ⟨q, PySem.W.cellsFrom_some _ _ _ (Or.inl q)⟩
  refine codeAny_call_function hr.depth (inS _ _ lk) rfl S.co S.gen rfl
    (PySem.W.codeRec_of inS hcd) (hb _ _ _ _ ?_)
  refine wpAny_newFunctionEnv_cells S.kind hkd ?_
  intro env he s1 x
  subst he
  refine ⟨lim.keeps x.toInCall.keep, codeAny_func ?_⟩
  obtain ⟨t, ht, hq⟩ := hbody cdv A outer s H vs Q p cls d hot hz (hr.deeper _) hsp
  have I := L2H.inv_startH (CX := CX0) (E := E0) S hpin e0 (len _ _ _ _ _ _ hsp) r x
  refine wpAny_mono (ht.run [] s1 (L2.start N vs) H _ I hq) ?_ (fun _ _ z => z)
  intro fl s' hs
  cases fl with
  | ret u =>
    obtain ⟨v, σ', H', J, rv, q⟩ := hs
    exact ⟨v, H', J.os, J.bare, J.base, J.hok, rv, q⟩
  | next =>
    obtain ⟨σ', H', J, q⟩ := hs
    exact ⟨V.non, H', J.os, J.bare, J.base, J.hok, rfl, q⟩
  | brk =>
    obtain ⟨_, _, _, q⟩ := hs
    exact False.elim q
  | cont =>
    obtain ⟨_, _, _, q⟩ := hs
    exact False.elim q

def tCallE (sp : SpE) (e : Addr) (cls : Value) (d : Option Addr) (t : TA) : TE := fun σ H Q => t σ H fun vs H1 => sp e cls d vs H1 Q
theorem pe_callE {X : Cx} {k : Nat} {f : Addr} {fd : FuncData} {ps : List Str} {sp : SpE} {x : Str} {q pos : Pos} {e : Expr}
    {es : List Expr} {t : TA} {p : Addr × Obj} {cls : Value} {d : Option Addr} (F : FnE X.prog X.w X.K X.mg X.base k f fd ps sp) (hr : L2H.RoomH k X.A)
    (hot : L2H.Hot1 X.A p) (hz : L2N.Zn cls d p.2) (hp : p ∈ X.pn) (hg : Gl X x) (hm : X.mg x = some (.ref f)) (hk : PySem.W.keepIn X.K (.ref f) = true)
    (hb : Binds X.K fd ps []) (ha : PA X (e :: es) t) (hdb : (x == ("__debug__" : Str)) = false := by decide)
    (he : starEach (e :: es) X.env = (false, eval e X.env) :: starEach es X.env := by rfl)
    (hpl : (backTo pos (starEach es X.env)).any (·.1) = false := by rfl) : PE X (.Call (.Name x q) (e :: es) [] pos) (tCallE sp p.1 cls d t) := by
  refine ⟨fun pins s σ H Q I h => ?_⟩
  refine wpAny_Call_Name_kw (ld_glob I hg hm ?_ hdb)
  refine PySem.W.callWith_K (h₀ := X.base) I.ok.mod.kin hk (thn (ha.run pos pins s σ H _ I h) ?_) he hpl
  rintro us s1 ⟨vs, H1, I1, r, h1⟩
  refine ⟨I1.kIn, ?_⟩
  have hl : us.length = ps.length := by rw [← r.length]; exact F.len _ _ _ _ _ _ h1
  have b := hb s1 us I1.kIn (by rw [List.append_nil]; exact hl)
  rw [List.append_nil] at b
  have P1 := I1.pin p (List.mem_append_left _ hp)
  have hpin : L2H.PinOk X.stack H1 s1 p :=
    ⟨P1.1, P1.2.1, fun hm => (List.mem_cons.mp (I1.stkSub p.1 hm)).elim P1.2.2.1 P1.2.2.2.1, P1.2.2.2.2⟩
  refine wpAny_call (codeAny_mono (F.run X.A X.stack s1 H1 us vs Q p cls d hr hot hz hpin I1.env0 b r h1) ?_)
  intro rr s' hq
  cases rr with
  | error e => exact False.elim hq
  | ok fl =>
    cases fl with
    | ret u => exact I1.after hq
    | next => exact False.elim hq
    | brk => exact False.elim hq
    | cont => exact False.elim hq

/-! ### xs.count(y), flat things -/
theorem cnt_eqU {x : V} {xs : List V} {us : List Value} (r : Vals xs us) (f : xs.all flatV = true) :
    us.countP (eqU x) = xs.countP fun y => eqV y x := by
  induction r with
  | nil => rfl
  | cons ry rt ih =>
    rw [List.all_cons, Bool.and_eq_true] at f
    rw [List.countP_cons, List.countP_cons, ih f.2, eqU_of ry f.1]
def rCntV (K : PySem.W.Frag) : V → List V → Hp → VK → Prop := fun x vs H Q => ∃ (a : Addr) (ys : List V) (y : V), x = .ref a ∧ vs = [y] ∧
  SqL K H a ys ∧ flatV y = true ∧ ys.all flatV = true ∧ Q (.int (ys.countP fun z => eqV z y : Nat)) H
theorem mt_cntV {X : Cx} : MtR X "list.count" (rCntV X.K) := by
  intro pins s σ H x xs v us Q I rx rxs h
  obtain ⟨p, ys, y, rfl, rfl, hs, fy, fys, q⟩ := h
  cases rx
  obtain ⟨u, rfl, ru⟩ := rxs.one
  obtain ⟨its, rv, ⟨⟨cls, dd, data, sl⟩, n, ho, hc, hdn, hd⟩, hlen⟩ := I.list hs
  simp only at hc hd
  subst hc hd
  refine call_meets PySem.F.slot_list_count ⟨_, ho, rfl⟩ PySem.F.entry_list_count (PySem.F.args_list_count_2 _ _)
    (SeqAt.list_countAt p its.toArray n dd sl u (eqU y)) ⟨ho, fun w hw => mem_eqAt ru fy rv fys w (by simpa using hw), ?_⟩
  have ec : its.toArray.toList.countP (eqU y) = ys.countP fun z => eqV z y := cnt_eqU rv fys
  refine ⟨.int (ys.countP fun z => eqV z y : Nat), H, I.tok _, ⟨s.toks, ?_⟩, q⟩
  show Value.int ((its.toArray.toList.countP (eqU y) : Nat) : Int) s.toks = _
  rw [ec]

/-! ### a list and a list, the left one perhaps the script -/
def rCatS (K : PySem.W.Frag) : R2 := fun x y H Q => ∃ l b xs zs, x = .ref l ∧ y = .ref b ∧ SqL K H l xs ∧ SqL K H b zs ∧
  xs.length + zs.length ≤ sizeLine ∧ ∀ p, H p = none → Q (.ref p) (upd H p (.lst (xs ++ zs)))
theorem op_catS {X : Cx} : OpR X (binaryOp .Add) (rCatS X.K) := by
  intro pins s σ H x y v u Q I rx ry h
  obtain ⟨l, b, xs, zs, rfl, rfl, hl, hb, hz, q⟩ := h
  cases rx
  cases ry
  obtain ⟨its, r, pl, _⟩ := I.list hl
  obtain ⟨its2, r2, pl2, _⟩ := I.list hb
  have n1 := r.length
  have n2 := r2.length
  obtain ⟨⟨c1, d1, da1, sl1⟩, m1, ho1, hc1, _, hd1⟩ := pl
  obtain ⟨⟨c2, d2, da2, sl2⟩, m2, ho2, hc2, _, hd2⟩ := pl2
  simp only at hc1 hd1 hc2 hd2
  subst hc1 hd1 hc2 hd2
  have ea : its.toArray ++ its2.toArray = (its ++ its2).toArray := by simp
  refine concat_meets ⟨_, ho1, rfl⟩ ⟨_, ho2, rfl⟩ noFill_list_add seq_list_add PySem.F.slot_list_add PySem.F.entry_list_add
    (PySem.F.args_list_add_2 _ _) (list_addW l b its.toArray its2.toArray m1 m2 d1 d2 sl1 sl2
      (by rw [List.size_toArray, List.size_toArray]; omega)) ⟨ho1, ho2, ?_⟩
  rw [ea]
  exact ⟨.ref _, _, I.lnew (t' := s.toks) (r.append r2) (by rw [List.length_append]; omega), rfl, q _ I.fresh⟩

/-! ### e(..), the value of e one of some defs of one promise -/
def tCallV (S : Addr → Prop) (sp : Sp) (E : St → XK) (te : TE) (t : TA) : TE := fun σ H Q => te σ H fun x H1 => ∃ f, x = .ref f ∧ S f ∧ t σ H1 fun vs H2 => sp vs H2 Q (E σ)
theorem pe_callV {X : Cx} {CX : CXT} {k : Nat} {S : Addr → Prop} {sp : Sp} {E : St → XK} {g e : Expr} {es : List Expr} {te : TE} {t : TA} {pos : Pos}
    (F : ∀ f, S f → ∃ (fd : FuncData) (ps : List Str), FnOk X.prog X.w X.K X.mg X.base CX k f fd ps sp ∧ PySem.W.keepIn X.K (.ref f) = true ∧ Binds X.K fd ps [])
    (hr : Room k X.A) (hx : ∀ σ, PassesAt CX X σ (E σ)) (hg : PE X g te) (ha : PA X (e :: es) t)
    (hev : eval (.Call g (e :: es) [] pos) X.env = (do callWith pos (← eval g X.env) [] (backTo pos (starEach (e :: es) X.env)) (backToKw pos (keywordEach [] X.env))) := by rfl)
    (he : starEach (e :: es) X.env = (false, eval e X.env) :: starEach es X.env := by rfl)
    (hpl : (backTo pos (starEach es X.env)).any (·.1) = false := by rfl) : PE X (.Call g (e :: es) [] pos) (tCallV S sp E te t) := by
  refine ⟨fun pins s σ H Q I h => ?_⟩
  refine PyProof.Rows.Call_ (thn (hg.run pins s σ H _ I h) ?_) hev
  rintro u s1 ⟨x, H1, I1, rx, f, rfl, hS, h1⟩
  obtain rfl : u = Value.ref f := rx
  obtain ⟨fd, ps, F1, hk, hb⟩ := F f hS
  refine PySem.W.callWith_K (h₀ := X.base) I.ok.mod.kin hk (thn (ha.run pos pins s1 σ H1 _ I1 h1) ?_) he hpl
  rintro us s2 ⟨vs, H2, I2, r, h2⟩
  exact ⟨I2.kIn, run_fnS F1 hr hb (hx σ) I2 r h2⟩

/-! ### a def that may raise, with the errors' context told -/
theorem okN {P : Program} {w : World} {K : PySem.W.Frag} {mg : Str → Option Value} {base : Heap} {x qual : Str} {st : Stmt} {f : Addr} {fd : FuncData}
    {N ps : List Str} {k : Nat} {sp : Sp} (F : Fun K x qual st f fd) (S : FnScope N ps (defScope st)) (len : ∀ vs H Q E, sp vs H Q E → vs.length = ps.length)
    (hbody : ∀ (cdv : Value) (A : Around) (outer : List Env) (s : Shared) (H : Hp) (vs : List V) (Q : VK) (E : XK), Room k (A.deeper (envOfC qual (defScope st) s.heap.objs.size f cdv)) →
      sp vs H Q E → ∃ t, PSs (cxOf (L2N.CX P w) P w K mg base N qual (defScope st) f cdv A outer s H E) (defBody st) t ∧
        t { nx := fun _ H' => Q .non H', rt := Q } (start N vs) H) : FnOk P w K mg base (L2N.CX P w) (k + 1) f fd ps sp := by
  obtain ⟨oc, od, kV, doc, pm, an, cdv, ct, osl, rfl, lk, hcd⟩ := F.ex
  exact fn_of lk hcd S len fun A outer s H vs Q E hr hsp => hbody cdv A outer s H vs Q E hr hsp
/-- X(e, ..), X an own error class without its own __init__; its context told -/
theorem pmkN {X : Cx} {C : Addr} {bmB : List Value} {B newId initId : String} {x : Str} {p pos : Pos} {e : Expr} {es : List Expr} {t : TA}
    (F : ExcBaseFacts B newId initId bmB) (q : PySem.W.excIn X.K C bmB newId = true) (gC : X.mg x = some (.ref C))
    (kC : PySem.W.keepIn X.K (.ref C) = true) (r : Raises X (.ref C)) (hg : Gl X x) (ha : PA X (e :: es) t)
    (hdb : (x == ("__debug__" : Str)) = false := by decide)
    (he : starEach (e :: es) X.env = (false, eval e X.env) :: starEach es X.env := by rfl)
    (hpl : (backTo pos (starEach es X.env)).any (·.1) = false := by rfl) :
    L2N.PMk X (.Call (.Name x p) (e :: es) [] pos) (fun σ H Q => t σ H fun vs H1 => vs.length ≤ sizeLine ∧ Q (.ref C) none H1) := by
  intro pins s σ H Q I h
  refine wpAny_Call_Name_kw (ld_glob I hg gC ?_ hdb)
  refine PySem.W.callWith_K (h₀ := X.base) I.ok.mod.kin kC (thn (ha.run pos pins s σ H _ I h) ?_) he hpl
  rintro us s1 ⟨vs, H1, I1, r1, hz, q1⟩
  refine ⟨I1.kIn, ?_⟩
  show wpAny _ _ (call (.ref C) us) _ _ _
  obtain ⟨bm, N, nm, qn, bs, hdct, sn, sub, ab, col, dd, k0, k1, k2, k3, k5, mN, hC, hN, hni, T⟩ := exc_obj I1.kIn q
  refine wpAny_call_exc_subT F T hC hN hni ?_ (by rw [← r1.length]; exact hz)
  intro h' e' hm
  exact L2N.mk_of I1 hm r q1 (I1.hok.gone hm.new)
theorem tkN {X : Cx} {E : XK} (hs : X.stack = X.env :: X.outer := by rfl) (hf : X.env.frame = some X.env.locals := by rfl) (hex : X.ex = [] := by rfl) {E₁ : Value → Shared → Prop}
    (hx : X.xe = fun e s' => wpAny (model X.prog X.w) X.A (leaving X.env e) (fun _ s'' => L2N.CX X.prog X.w X.outer X.H_0 X.s_0 E e s'') E₁ s' := by rfl) : L2N.Takes X (fun cls d _ H => E cls d H) := L2N.takes_of hs hf hex hx
/-- nothing is let out where the wish is none -/
theorem passN {X : Cx} : Passes (L2N.CX X.prog X.w) X E0 := by
  intro _ _ _ _ _ _ _ h
  obtain ⟨_, _, _, _, _, _, _, _, _, _, _, _, z⟩ := h
  exact z.elim
/-! ### heaps -/
theorem get_new {H : Hp} {p q : Addr} {o x : HO} (h : H p = none) (e : H q = some x) : upd H p o q = some x := by
  rw [upd_ne (ne_of_none e h)]
  exact e
theorem sq_new {K : PySem.W.Frag} {H : Hp} {p q : Addr} {o : HO} {xs : List V} (h : H p = none) (e : SqL K H q xs) : SqL K (upd H p o) q xs := by
  rcases e with (e | ⟨ob, e⟩) | e
  · exact .inl (.inl (get_new h e))
  · exact .inl (.inr ⟨ob, get_new h e⟩)
  · exact .inr e
theorem st_new {K : PySem.W.Frag} {H : Hp} {p q : Addr} {o : HO} {xs : List V} (h : H p = none) (e : SqT K H q xs) : SqT K (upd H p o) q xs := by
  rcases e with (e | ⟨ob, e⟩) | e
  · exact .inl (.inl (get_new h e))
  · exact .inl (.inr ⟨ob, get_new h e⟩)
  · exact .inr e
theorem same_new {H H' : Hp} {p : Addr} {o : HO} (h : H' p = none) (e : Same H H') : Same H (upd H' p o) := fun b x q => get_new h (e b x q)
theorem Same.new {H : Hp} {p : Addr} {o : HO} (h : H p = none) : Same H (upd H p o) := fun b x q => get_new h q
/-- a new object: from then on the heap is told by what it keeps and holds -/
theorem nw {H : Hp} {o : HO} {Q : VK} (k : ∀ (p : Addr) (H2 : Hp), H p = none → Same H H2 → H2 p = some o → Q (.ref p) H2) : ∀ p : Addr, H p = none → Q (.ref p) (upd H p o) :=
  fun p hp => k p _ hp (Same.new hp) upd_same
theorem takesN0 {X : Cx} : L2N.Takes X (fun _ _ _ _ => False) := by
  intro _ _ x
  obtain ⟨_, _, _, _, _, _, _, _, _, _, _, _, _, _, _, _, z⟩ := x
  exact z.elim
theorem ctx_of {cls : Value} {d : Option Addr} {oe : Obj} (hz : L2N.Zn cls d oe) (hf : ∃ vs, oe.data = .fields vs) : ∃ vs : Array Value, oe.data = .fields vs ∧ vs[2]? = some .none := by
  obtain ⟨vs, e⟩ := hf
  exact ⟨vs, e, hz.2.2 vs e⟩
theorem Same.seqT {K : PySem.W.Frag} {H H' : Hp} {a : Addr} {xs : List V} (e : Same H H') (h : SqT K H a xs) : SqT K H' a xs := by
  rcases h with (h | ⟨o, h⟩) | h
  · exact .inl (.inl (e _ _ h))
  · exact .inl (.inr ⟨o, e _ _ h⟩)
  · exact .inr h
theorem Same.ty {K : PySem.W.Frag} {H H' : Hp} {x : V} {T : String} (e : Same H H') (h : TyB K H x T) : TyB K H' x T := by
  cases h with
  | non => exact .non
  | bl b => exact .bl b
  | int i => exact .int i
  | str x => exact .str x
  | byt b => exact .byt b
  | lst h => exact .lst (Same.seq e h)
  | tup h => exact .tup (Same.seqT e h)
  | dK h => exact .dK (e _ _ h)
theorem small {n : Nat} (h : n.ble 100000 = true) : n ≤ 100000 := Nat.le_of_ble_eq_true h
end LH
/-! the reader: a reading, step by step, what follows kept as a letter -/
namespace LH
open PySem L2
variable {K : PySem.W.Frag} {σ : L2.St} {H : Hp} {Q : VK} {D : Ends} {ta tb te tc : TE} {t u : TS} {c c' : TT} {x y v : V} {r r' : R2} {tr : TA} {g : TG}
def Br (b : Bool) (A B : Prop) : Prop := if b = true then A else B
theorem br_t {A B : Prop} (h : A) : Br true A B := by unfold Br; rw [if_pos rfl]; exact h
theorem br_f {A B : Prop} (h : B) : Br false A B := by unfold Br; rw [if_neg Bool.false_ne_true]; exact h
theorem br {b : Bool} {A B : Prop} (h1 : b = true → A) (h2 : b = false → B) : Br b A B := by
  cases b
  · exact br_f (h2 rfl)
  · exact br_t (h1 rfl)
theorem br_p {p A B : Prop} [Decidable p] (h : p) (k : A) : Br (decide p) A B := by rw [decide_eq_true h]; exact br_t k
theorem br_n {p A B : Prop} [Decidable p] (h : ¬ p) (k : B) : Br (decide p) A B := by rw [decide_eq_false h]; exact br_f k
theorem br_d {p A B : Prop} [Decidable p] (h1 : p → A) (h2 : ¬ p → B) : Br (decide p) A B := br (fun e => h1 (of_decide_eq_true e)) (fun e => h2 (of_decide_eq_false e))
theorem br_nd {p A B : Prop} [Decidable p] (h1 : ¬ p → A) (h2 : p → B) : Br (!decide p) A B := br (fun e => h1 (by simpa using e)) (fun e => h2 (by simpa using e))
theorem br_nt {A B : Prop} (h : B) : Br (!true) A B := br_f h
theorem br_nf {A B : Prop} (h : A) : Br (!false) A B := br_t h
theorem br_eq {b b' : Bool} {A B : Prop} (e : b = b') (h : Br b' A B) : Br b A B := by rw [e]; exact h
def Bx (x : V) (H : Hp) (Q : Bool → Hp → Prop) : Prop := ∃ k, x = .bl k ∧ Q k H
theorem bx {k : Bool} {Q : Bool → Hp → Prop} (q : Q k H) : Bx (.bl k) H Q := ⟨k, rfl, q⟩
def BAnd (x : V) (H : Hp) (Q : VK) (R : Hp → VK → Prop) : Prop := ∃ c, x = .bl c ∧ if c = true then R H Q else Q (.bl false) H
def BOr (x : V) (H : Hp) (Q : VK) (R : Hp → VK → Prop) : Prop := ∃ c, x = .bl c ∧ if c = true then Q (.bl true) H else R H Q
theorem band {k : Bool} {R : Hp → VK → Prop} (q : Br k (R H Q) (Q (.bl false) H)) : BAnd (.bl k) H Q R := ⟨k, rfl, q⟩
theorem bor {k : Bool} {R : Hp → VK → Prop} (q : Br k (Q (.bl true) H) (R H Q)) : BOr (.bl k) H Q R := ⟨k, rfl, q⟩
def NewL (xs : List V) (H : Hp) (Q : VK) : Prop := xs.length ≤ sizeLine ∧ ∀ p, H p = none → Q (.ref p) (upd H p (.lst xs))
def NewT (xs : List V) (H : Hp) (Q : VK) : Prop := xs.length ≤ sizeLine ∧ ∀ p, H p = none → Q (.ref p) (upd H p (.tup xs))
theorem sz {n : Nat} (h : n ≤ 100000) : n ≤ sizeLine := Nat.le_trans h (by decide)
theorem sz' {n : Nat} (h : n ≤ 100000) : n < sizeLine := Nat.lt_of_le_of_lt h (by decide)
theorem newl {xs : List V} (hl : xs.length ≤ 100000) (k : ∀ p H2, H p = none → Same H H2 → H2 p = some (.lst xs) → Q (.ref p) H2) : NewL xs H Q :=
  ⟨sz hl, fun p hp => k p _ hp (Same.new hp) upd_same⟩
theorem newt {xs : List V} (hl : xs.length ≤ 100000) (k : ∀ p H2, H p = none → Same H H2 → H2 p = some (.tup xs) → Q (.ref p) H2) : NewT xs H Q :=
  ⟨sz hl, fun p hp => k p _ hp (Same.new hp) upd_same⟩
def NewO (o : HO) (H : Hp) (Q : VK) : Prop := ∀ p, H p = none → Q (.ref p) (upd H p o)
theorem newo {o : HO} (k : ∀ p H2, H p = none → Same H H2 → H2 p = some o → Q (.ref p) H2) : NewO o H Q := fun p hp => k p _ hp (Same.new hp) upd_same
/-! statements -/
theorem x_seq (h : t { D with nx := u D } σ H) : tSeq t u D σ H := h
theorem x_asg (h : te σ H fun x H1 => g x σ H1 D.nx) : tAsg te g D σ H := h
theorem x_gname {i : Nat} {Q : L2.St → Hp → Prop} (h : Q (σ.set i (some v)) H) : gName i v σ H Q := h
theorem x_ret (h : te σ H D.rt) : tRet te D σ H := h
theorem x_drop (h : te σ H fun _ H1 => D.nx σ H1) : tDrop te D σ H := h
theorem x_ifS (h : c σ H fun b H1 => Br b (t D σ H1) (u D σ H1)) : tIfS c t u D σ H := h
theorem x_next (h : D.nx σ H) : tNext D σ H := h
theorem x_cont (h : D.ct σ H) : tCont D σ H := h
/-! expressions -/
theorem x_var {i : Nat} (h : σ[i]? = some (some v)) (q : Q v H) : tVar i σ H Q := ⟨v, h, q⟩
theorem x_c (q : Q v H) : tC v σ H Q := q
theorem x_op (h : ta σ H fun x H1 => tb σ H1 fun y H2 => r x y H2 Q) : tOp r ta tb σ H Q := h
theorem x_un {r : V → Hp → VK → Prop} (h : ta σ H fun x H1 => r x H1 Q) : tUn r ta σ H Q := h
theorem x_U {f : Int → V} {i : Int} (q : Q (f i) H) : rU f (.int i) H Q := ⟨i, rfl, q⟩
theorem x_I0 {f : Int → Int → V} {i j : Int} (q : Q (f i j) H) : rI0 f (.int i) (.int j) H Q := ⟨i, j, rfl, rfl, q⟩
theorem x_I {C : Int → Int → Prop} {f : Int → Int → V} {i j : Int} (h : C i j) (q : Q (f i j) H) : rI C f (.int i) (.int j) H Q := ⟨i, j, rfl, rfl, h, q⟩
theorem x_eq (h : scal x y = true) (q : Q (.bl (decide (x = y))) H) : rEq x y H Q := ⟨h, q⟩
theorem x_ne (h : scal x y = true) (q : Q (.bl (!decide (x = y))) H) : rNe x y H Q := ⟨h, q⟩
theorem x_test {Q : Bool → Hp → Prop} (h : te σ H fun x H1 => Bx x H1 Q) : tTest te σ H Q := h
theorem x_tB {Q : Bool → Hp → Prop} (h : te σ H fun x H1 => Bx x H1 Q) : tB te σ H Q := h
theorem x_and {Q : Bool → Hp → Prop} (h : c σ H fun b H1 => Br b (c' σ H1 Q) (Q false H1)) : tAnd c c' σ H Q := h
theorem x_or {Q : Bool → Hp → Prop} (h : c σ H fun b H1 => Br b (Q true H1) (c' σ H1 Q)) : tOr c c' σ H Q := h
theorem x_not {Q : Bool → Hp → Prop} (h : c σ H fun b H1 => Q (!b) H1) : tNot c σ H Q := h
theorem x_andV (h : ta σ H fun x H1 => BAnd x H1 Q (tb σ)) : tAndV ta tb σ H Q := h
theorem x_orV (h : ta σ H fun x H1 => BOr x H1 Q (tb σ)) : tOrV ta tb σ H Q := h
theorem x_notV (h : ta σ H fun x H1 => Bx x H1 fun b H2 => Q (.bl (!b)) H2) : tNotV ta σ H Q := h
theorem x_if (h : c σ H fun b H1 => Br b (ta σ H1 Q) (tb σ H1 Q)) : tIf c ta tb σ H Q := h
def ChK (z : V) (σ : L2.St) (H : Hp) (Q : VK) (tc : TE) (r' : R2) (y : V) : Prop := ∃ k, z = .bl k ∧ if k = true then tc σ H fun w' H4 => r' y w' H4 Q else Q (.bl false) H
theorem x_chain (h : ta σ H fun x H1 => tb σ H1 fun y H2 => r x y H2 fun z H3 => ChK z σ H3 Q tc r' y) : tChain r r' ta tb tc σ H Q := h
theorem chk {k : Bool} (h : Br k (tc σ H fun w' H4 => r' y w' H4 Q) (Q (.bl false) H)) : ChK (.bl k) σ H Q tc r' y := ⟨k, rfl, h⟩
theorem x_nil {Q : List V → Hp → Prop} (q : Q [] H) : tNil σ H Q := q
theorem x_cons {Q : List V → Hp → Prop} (h : ta σ H fun x H1 => tr σ H1 fun xs H2 => Q (x :: xs) H2) : tCons ta tr σ H Q := h
theorem x_lst (h : tr σ H fun xs H1 => NewL xs H1 Q) : tLst tr σ H Q := h
theorem x_tup (h : tr σ H fun xs H1 => NewT xs H1 Q) : tTup tr σ H Q := h
theorem x_call {sp : Sp} {dvs : List V} {E : XK} (h : tr σ H fun vs H1 => sp (vs ++ dvs) H1 Q E) : tCall sp dvs E tr σ H Q := h
theorem x_callS {sp : Sp} {E : L2.St → XK} (h : tr σ H fun vs H1 => sp vs H1 Q (E σ)) : tCallS sp E tr σ H Q := h
theorem x_callE {sp : SpE} {e : Addr} {cls : Value} {d : Option Addr} (h : tr σ H fun vs H1 => sp e cls d vs H1 Q) : tCallE sp e cls d tr σ H Q := h
theorem x_cb {r : List V → Hp → VK → Prop} (h : tr σ H fun vs H1 => r vs H1 Q) : tCB r tr σ H Q := h
def BmV (K : PySem.W.Frag) (T : String) (r : V → List V → Hp → VK → Prop) (tr : TA) (σ : L2.St) (x : V) (H : Hp) (Q : VK) : Prop := tyV K T x H ∧ tr σ H fun xs H2 => r x xs H2 Q
theorem x_bm {T : String} {r : V → List V → Hp → VK → Prop} (h : te σ H fun x H1 => BmV K T r tr σ x H1 Q) : tBM K T r te tr σ H Q := h
theorem bm_l {r : V → List V → Hp → VK → Prop} {p : Addr} {xs : List V} (h : SqL K H p xs) (q : tr σ H fun ys H2 => r (.ref p) ys H2 Q) : BmV K "list" r tr σ (.ref p) H Q := ⟨.inl ⟨rfl, _, h⟩, q⟩
def CvV (S : Addr → Prop) (sp : Sp) (E : L2.St → XK) (tr : TA) (σ : L2.St) (x : V) (H : Hp) (Q : VK) : Prop := ∃ f, x = .ref f ∧ S f ∧ tr σ H fun vs H2 => sp vs H2 Q (E σ)
theorem x_callV {S : Addr → Prop} {sp : Sp} {E : L2.St → XK} (h : te σ H fun x H1 => CvV S sp E tr σ x H1 Q) : tCallV S sp E te tr σ H Q := h
theorem cvv {S : Addr → Prop} {sp : Sp} {E : L2.St → XK} {f : Addr} (h : S f) (q : tr σ H fun vs H2 => sp vs H2 Q (E σ)) : CvV S sp E tr σ (.ref f) H Q := ⟨f, rfl, h, q⟩
/-! values -/
theorem x_ixL {p : Addr} {xs : List V} {i : Int} (h : SqL K H p xs) (e : atI xs i = some v) (q : Q v H) : rIxL K (.ref p) (.int i) H Q := ⟨p, xs, i, v, rfl, rfl, h, e, q⟩
theorem x_ixT {p : Addr} {xs : List V} {i : Int} (h : SqT K H p xs) (e : atI xs i = some v) (q : Q v H) : rIxT K (.ref p) (.int i) H Q := ⟨p, xs, i, v, rfl, rfl, h, e, q⟩
theorem x_isi {t : Value} {n : Value} {b : Bool} {cv : V} (k : ClsV cv n) (ty : TyX K H x t) (e : PySem.W.kitOne K t n = some b) (q : Q (.bl b) H) : rIsi K [x, cv] H Q := ⟨x, cv, t, n, b, rfl, k, ty, e, q⟩
theorem x_isE {C a : Addr} {b : Bool} {cv : V} {n : Value} (hc : ∀ u, RelV cv u → u = n) (e : PySem.W.kitOne K (.ref C) n = some b) (q : Q (.bl b) H) : rIsE K C a [.ref a, cv] H Q := ⟨cv, n, b, rfl, hc, e, q⟩
theorem x_cntV {p : Addr} {ys : List V} (h : SqL K H p ys) (fy : flatV y = true) (fys : ys.all flatV = true) (q : Q (.int (ys.countP fun z => eqV z y : Nat)) H) : rCntV K (.ref p) [y] H Q := ⟨p, ys, y, rfl, rfl, h, fy, fys, q⟩
theorem x_index {p : Addr} {ys : List V} {j : Nat} {z : V} (h : SqL K H p ys) (fy : flatV y = true) (fys : ys.all flatV = true) (e : ys[j]? = some z) (ez : eqV z y = true)
    (hn : ∀ (m : Nat) (z' : V), m < j → ys[m]? = some z' → eqV z' y = false) (q : Q (.int (j : Nat)) H) : rIndex K (.ref p) [y] H Q := ⟨p, ys, y, j, z, rfl, rfl, h, fy, fys, e, ez, hn, q⟩
theorem x_catS {p q : Addr} {xs ys : List V} (h1 : SqL K H p xs) (h2 : SqL K H q ys) (hl : xs.length + ys.length ≤ 100000)
    (k : ∀ p H2, H p = none → Same H H2 → H2 p = some (.lst (xs ++ ys)) → Q (.ref p) H2) : rCatS K (.ref p) (.ref q) H Q :=
  ⟨p, q, xs, ys, rfl, rfl, h1, h2, sz hl, fun p hp => k p _ hp (Same.new hp) upd_same⟩
theorem x_in {neg : Bool} {p : Addr} {xs : List V} (h : SqL K H p xs) (hx : flatV x = true) (ha : xs.all flatV = true) (q : Q (.bl (if neg then !inV x xs else inV x xs)) H) : rIn K neg x (.ref p) H Q := ⟨p, xs, rfl, Or.inl h, hx, ha, q⟩
theorem x_typ {T : String} (h : TyB K H x T) (q : Q (.ty T) H) : rTyp K [x] H Q := ⟨x, T, rfl, h, q⟩
theorem x_neD {d e : PyData} (hx : Dp K H x d) (hy : Dp K H y e) (sd : SeqAt.shaped d = true) (se : SeqAt.shaped e = true) (q : Q (.bl (!PyData.eqv d e)) H) : rNeD K x y H Q := ⟨d, e, hx, hy, sd, se, q⟩
theorem x_eqD {d e : PyData} (hx : Dp K H x d) (hy : Dp K H y e) (sd : SeqAt.shaped d = true) (se : SeqAt.shaped e = true) (q : Q (.bl (PyData.eqv d e)) H) : rEqD K x y H Q := ⟨d, e, hx, hy, sd, se, q⟩
def LrV (a b : Int) (H : Hp) (Q : VK) : Prop := RgOk a b ∧ NewO (.lst (rgV a b)) H Q
theorem lrv {a b : Int} (h : RgOk a b) (k : ∀ p H2, H p = none → Same H H2 → H2 p = some (.lst (rgV a b)) → Q (.ref p) H2) : LrV a b H Q := ⟨h, newo k⟩
theorem x_lrg {te : L2.St → Hp → (Int → Int → Hp → Prop) → Prop} (h : te σ H fun a b H1 => LrV a b H1 Q) : tLstRg te σ H Q := h
end LH
namespace LH
open PySem L2
section
variable {K : PySem.W.Frag} {σ : L2.St} {H : Hp} {Q : VK} {te tl : TE} {t : TT} {g : TG}
/-! comprehensions over a list -/
def LcV (K : PySem.W.Frag) (g : TG) (t : TT) (te : TE) (vs : List Nat) (σ : L2.St) (x : V) (H1 : Hp) (Q : VK) : Prop :=
  ∃ a, x = .ref a ∧ (∃ xs, SqL K H1 a xs) ∧ ∀ D, H1 D = none → ∃ W : Nat → Nat → Hp → Prop, (∃ m, W 0 m (upd H1 D (.lst []))) ∧ ∀ i m H, W i m H →
  ((Itl K a).stop i H ∧ Q (.ref D) H) ∨ ((Itl K a).go i H ∧ ∃ Nx : Hp → Prop, (∀ H', Nx H' → ∃ m', m' < m ∧ W (i + 1) m' H') ∧ ∀ x H', (Itl K a).yld i H x H' → g x (wipe σ vs) H' fun σ2 H2 => wipe σ2 vs = wipe σ vs ∧ t σ2 H2 fun b H3 =>
    if b = true then te σ2 H3 fun y H4 => ∃ acc, H4 D = some (.lst acc) ∧ acc.length < sizeLine ∧ Nx (upd H4 D (.lst (acc ++ [y]))) else Nx H3)
theorem x_lc {vs : List Nat} (h : tl σ H fun x H1 => LcV K g t te vs σ x H1 Q) : tLc (iList K tl) g t te vs σ H Q := h
theorem take_more {α : Type} {l : List α} {i : Nat} {x : α} (h : l[i]? = some x) : l.take (i + 1) = l.take i ++ [x] := by
  rw [List.take_add_one, h]
  rfl
theorem Same.mut {H H' : Hp} {p : Addr} {o : HO} (e : Same H H') (h : H p = none) : Same H (upd H' p o) := fun a u ha => by
  rw [upd_ne (ne_of_none ha h)]
  exact e a u ha
/-- each item kept where f says so, and turned by v; tests and elements may make things of their own -/
theorem lc_L {a : Addr} {xs : List V} {j : Nat} {vs : List Nat} (hx : SqL K H a xs) (hz : xs.length ≤ 100000) (f : V → Bool) (v : V → V)
    (hw : ∀ x, wipe ((wipe σ vs).set j (some x)) vs = wipe σ vs)
    (ht : ∀ x, x ∈ xs → ∀ H1, Same H H1 → ∀ Q : Bool → Hp → Prop, (∀ H2, Same H1 H2 → Q (f x) H2) → t ((wipe σ vs).set j (some x)) H1 Q)
    (he : ∀ x, x ∈ xs → f x = true → ∀ H1, Same H H1 → ∀ Q : VK, (∀ H2, Same H1 H2 → Q (v x) H2) → te ((wipe σ vs).set j (some x)) H1 Q)
    (k : ∀ p H2, H p = none → Same H H2 → H2 p = some (.lst ((xs.filter f).map v)) → Q (.ref p) H2) : LcV K (gName j) t te vs σ (.ref a) H Q := by
  refine ⟨a, rfl, ⟨xs, hx⟩, fun D hD => ?_⟩
  refine lc_list (xs := xs) (fun i H' => Same H H' ∧ H' D = some (.lst (((xs.take i).filter f).map v))) ⟨Same.new hD, upd_same⟩ (fun i H' _ p => Same.seq p.1 hx) ?_ ?_
  · intro i x H' hi p
    have hm : x ∈ xs := List.mem_of_getElem? hi
    have hlt : i < xs.length := (List.getElem?_eq_some_iff.mp hi).1
    have et := take_more hi
    refine ⟨hw x, ht x hm H' p.1 _ fun H2 e2 => ?_⟩
    cases hf : f x with
    | true =>
      rw [if_pos rfl]
      refine he x hm hf H2 (p.1.trans e2) _ fun H3 e3 => ⟨_, e3 _ _ (e2 _ _ p.2), ?_, ?_, ?_⟩
      · have z1 := List.length_filter_le f (xs.take i)
        rw [List.length_map]
        rw [List.length_take] at z1
        exact sz' (by omega)
      · exact Same.mut ((p.1.trans e2).trans e3) hD
      · rw [et, List.filter_append, List.map_append, upd_same]
        simp [List.filter, hf]
    | false =>
      rw [if_neg Bool.false_ne_true]
      refine ⟨p.1.trans e2, ?_⟩
      rw [et, List.filter_append, List.map_append]
      simp [List.filter, hf]
      exact e2 _ _ p.2
  · intro H' p
    rw [List.take_length] at p
    exact k D H' hD p.1 p.2
/-- len(..) -/
def rLen (K : PySem.W.Frag) : List V → Hp → VK → Prop := fun xs H Q => ∃ p ys, xs = [.ref p] ∧ (SqL K H p ys ∨ SqT K H p ys) ∧ Q (.int ys.length) H
theorem call_len {X : Cx} : CallR X (.builtin "len") (rLen X.K) := call_len_seq
theorem x_lenL {p : Addr} {xs : List V} (h : SqL K H p xs) (q : Q (.int xs.length) H) : rLen K [.ref p] H Q := ⟨p, xs, rfl, .inl h, q⟩
theorem x_lenT {p : Addr} {xs : List V} (h : SqT K H p xs) (q : Q (.int xs.length) H) : rLen K [.ref p] H Q := ⟨p, xs, rfl, .inr h, q⟩
def rAbs : List V → Hp → VK → Prop := fun xs H Q => ∃ i, xs = [.int i] ∧ Q (.int (if i < 0 then -i else i)) H
theorem call_absI {X : Cx} : CallR X (.builtin "abs") rAbs := call_abs
theorem x_abs {i : Int} (q : Q (.int (if i < 0 then -i else i)) H) : rAbs [.int i] H Q := ⟨i, rfl, q⟩
def ForL (K : PySem.W.Frag) (g : TG) (tb : TS) (D : Ends) (σ : L2.St) (x : V) (H1 : Hp) : Prop := ∃ a, x = .ref a ∧ (∃ xs, SqL K H1 a xs) ∧ ∃ W : Nat → Nat → L2.St → Hp → Prop, (∃ m, W 0 m σ H1) ∧ ∀ i m σ H, W i m σ H →
  ((Itl K a).stop i H ∧ D.nx σ H) ∨ ((Itl K a).go i H ∧ ∃ N : L2.St → Hp → Prop, (∀ σ' H', N σ' H' → ∃ m', m' < m ∧ W (i + 1) m' σ' H') ∧ ∀ x H', (Itl K a).yld i H x H' → g x σ H' fun σ2 H2 => tb { D with nx := N, ct := N, bk := D.nx } σ2 H2)
theorem x_forL {tb : TS} {D : Ends} (h : tl σ H fun x H1 => ForL K g tb D σ x H1) : tFor (iList K tl) g tb D σ H := h
/-- a for over a list by what holds between two turns; the turn's item is x -/
theorem for_L {tb : TS} {D : Ends} {j : Nat} {a : Addr} {xs : List V} (hx : SqL K H a xs) (Pv : Nat → L2.St → Hp → Prop) (h0 : Pv 0 σ H) (hl : ∀ i σ H, i ≤ xs.length → Pv i σ H → SqL K H a xs)
    (hs : ∀ i x σ H, xs[i]? = some x → Pv i σ H → tb { nx := Pv (i + 1), rt := D.rt, ct := Pv (i + 1), bk := D.nx } (σ.set j (some x)) H) (hd : ∀ σ H, Pv xs.length σ H → D.nx σ H) : ForL K (gName j) tb D σ (.ref a) H :=
  ⟨a, rfl, ⟨xs, hx⟩, for_list (xs := xs) Pv h0 hl (fun i x σ H e p => hs i x σ H e p) hd⟩
def Rg1V (x : V) (H : Hp) (Q : Int → Int → Hp → Prop) : Prop := ∃ n, x = .int n ∧ Q 0 n H
def Rg2V (x y : V) (H : Hp) (Q : Int → Int → Hp → Prop) : Prop := ∃ i j, x = .int i ∧ y = .int j ∧ Q i j H
theorem x_rg1 {Q : Int → Int → Hp → Prop} (h : te σ H fun x H1 => Rg1V x H1 Q) : tRg1 te σ H Q := h
theorem x_rg2 {tb : TE} {Q : Int → Int → Hp → Prop} (h : te σ H fun x H1 => tb σ H1 fun y H2 => Rg2V x y H2 Q) : tRg2 te tb σ H Q := h
theorem rg1v {n : Int} {Q : Int → Int → Hp → Prop} (q : Q 0 n H) : Rg1V (.int n) H Q := ⟨n, rfl, q⟩
theorem rg2v {i j : Int} {Q : Int → Int → Hp → Prop} (q : Q i j H) : Rg2V (.int i) (.int j) H Q := ⟨i, j, rfl, rfl, q⟩
end
end LH
namespace LH
open PySem L2
section
variable {K : PySem.W.Frag} {σ : L2.St} {H : Hp} {Q : VK} {D : Ends} {te tl ta tb : TE} {tr : TA} {t : TT} {g : TG} {x y : V}
/-! walks of any kind -/
def LcJ (J : It) (g : TG) (t : TT) (te : TE) (vs : List Nat) (σ : L2.St) (H1 : Hp) (Q : VK) : Prop :=
  ∀ D, H1 D = none → ∃ W : Nat → Nat → Hp → Prop, (∃ m, W 0 m (upd H1 D (.lst []))) ∧ ∀ i m H, W i m H →
  (J.stop i H ∧ Q (.ref D) H) ∨ (J.go i H ∧ ∃ Nx : Hp → Prop, (∀ H', Nx H' → ∃ m', m' < m ∧ W (i + 1) m' H') ∧ ∀ x H', J.yld i H x H' → g x (wipe σ vs) H' fun σ2 H2 => wipe σ2 vs = wipe σ vs ∧ t σ2 H2 fun b H3 =>
    if b = true then te σ2 H3 fun y H4 => ∃ acc, H4 D = some (.lst acc) ∧ acc.length < sizeLine ∧ Nx (upd H4 D (.lst (acc ++ [y]))) else Nx H3)
def ForJ (J : It) (g : TG) (tb : TS) (D : Ends) (σ : L2.St) (H1 : Hp) : Prop := ∃ W : Nat → Nat → L2.St → Hp → Prop, (∃ m, W 0 m σ H1) ∧ ∀ i m σ H, W i m σ H →
  (J.stop i H ∧ D.nx σ H) ∨ (J.go i H ∧ ∃ N : L2.St → Hp → Prop, (∀ σ' H', N σ' H' → ∃ m', m' < m ∧ W (i + 1) m' σ' H') ∧ ∀ x H', J.yld i H x H' → g x σ H' fun σ2 H2 => tb { D with nx := N, ct := N, bk := D.nx } σ2 H2)
def StrV (v : V) (H : Hp) (R : It → Hp → Prop) : Prop := ∃ x, v = .str x ∧ R (Its x) H
theorem strv {z : Str} {R : It → Hp → Prop} (h : R (Its z) H) : StrV (.str z) H R := ⟨z, rfl, h⟩
def Rn1V (vs : List V) (H : Hp) (R : It → Hp → Prop) : Prop := ∃ j : Int, vs = [.int j] ∧ -(2 ^ 62) ≤ j ∧ j < 2 ^ 62 ∧ R (Itr 0 j.toNat) H
theorem rn1v {j : Int} {R : It → Hp → Prop} (h1 : -100000 ≤ j) (h2 : j ≤ 100000) (h : R (Itr 0 j.toNat) H) : Rn1V [.int j] H R := ⟨j, rfl, by omega, by omega, h⟩
def Rn3V (vs : List V) (H : Hp) (R : It → Hp → Prop) : Prop := ∃ (i j c : Int) (n : Nat), vs = [.int i, .int j, .int c] ∧ RgC i j c n ∧ R (Itc i c n) H
theorem rn3v {i j c : Int} {n : Nat} {R : It → Hp → Prop} (h1 : RgC i j c n) (h : R (Itc i c n) H) : Rn3V [.int i, .int j, .int c] H R := ⟨i, j, c, n, rfl, h1, h⟩
def TupV (K : PySem.W.Frag) (x : V) (H : Hp) (R : It → Hp → Prop) : Prop := ∃ a, x = .ref a ∧ (∃ xs, SqT K H a xs) ∧ R (Itt K a) H
theorem x_lcS {vs : List Nat} (h : tl σ H fun v H1 => StrV v H1 fun J H2 => LcJ J g t te vs σ H2 Q) : tLc (iStr tl) g t te vs σ H Q := h
theorem x_lcR1 {vs : List Nat} (h : tr σ H fun v H1 => Rn1V v H1 fun J H2 => LcJ J g t te vs σ H2 Q) : tLc (iRng1 tr) g t te vs σ H Q := h
theorem x_forR1 {tb : TS} (h : tr σ H fun v H1 => Rn1V v H1 fun J H2 => ForJ J g tb D σ H2) : tFor (iRng1 tr) g tb D σ H := h
theorem x_forR3 {tb : TS} (h : tr σ H fun v H1 => Rn3V v H1 fun J H2 => ForJ J g tb D σ H2) : tFor (iRng3 tr) g tb D σ H := h
theorem for_R3 {tb : TS} {lo c : Int} {n : Nat} {j : Nat} (Pv : Nat → L2.St → Hp → Prop) (h0 : Pv 0 σ H)
    (hs : ∀ i σ H, i < n → Pv i σ H → tb { nx := Pv (i + 1), rt := D.rt, ct := Pv (i + 1), bk := D.nx } (σ.set j (some (.int (lo + (i : Nat) * c)))) H) (hd : ∀ σ H, Pv n σ H → D.nx σ H) : ForJ (Itc lo c n) (gName j) tb D σ H :=
  for_rangeC Pv h0 (fun i σ H hi p => hs i σ H hi p) hd
theorem for_R1 {tb : TS} {lo : Int} {n : Nat} {j : Nat} (Pv : Nat → L2.St → Hp → Prop) (h0 : Pv 0 σ H)
    (hs : ∀ i σ H, i < n → Pv i σ H → tb { nx := Pv (i + 1), rt := D.rt, ct := Pv (i + 1), bk := D.nx } (σ.set j (some (.int (lo + (i : Nat))))) H) (hd : ∀ σ H, Pv n σ H → D.nx σ H) : ForJ (Itr lo n) (gName j) tb D σ H :=
  for_range Pv h0 (fun i σ H hi p => hs i σ H hi p) hd
/-- a comprehension whose walk gives the items xs, the heap as it was -/
theorem lc_J {J : It} {n : Nat} {Y : Nat → Hp → V → Hp → Prop} (w : Walk J n (fun _ => True) Y) {xs : List V} (hn : xs.length = n) (hY : ∀ i H x H', Y i H x H' → H' = H ∧ xs[i]? = some x) {j : Nat} {vs : List Nat} (hz : xs.length ≤ 100000)
    (f : V → Bool) (v : V → V) (hw : ∀ x, wipe ((wipe σ vs).set j (some x)) vs = wipe σ vs)
    (ht : ∀ x, x ∈ xs → ∀ H1, Same H H1 → ∀ Q : Bool → Hp → Prop, (∀ H2, Same H1 H2 → Q (f x) H2) → t ((wipe σ vs).set j (some x)) H1 Q)
    (he : ∀ x, x ∈ xs → f x = true → ∀ H1, Same H H1 → ∀ Q : VK, (∀ H2, Same H1 H2 → Q (v x) H2) → te ((wipe σ vs).set j (some x)) H1 Q)
    (k : ∀ p H2, H p = none → Same H H2 → H2 p = some (.lst ((xs.filter f).map v)) → Q (.ref p) H2) : LcJ J (gName j) t te vs σ H Q := by
  intro D hD
  refine lc_it w (fun i H' => Same H H' ∧ H' D = some (.lst (((xs.take i).filter f).map v))) ⟨Same.new hD, upd_same⟩ (fun _ _ _ _ => trivial) ?_ ?_
  · intro i x H' H'' hi p y
    obtain ⟨rfl, hx⟩ := hY _ _ _ _ y
    have hm : x ∈ xs := List.mem_of_getElem? hx
    have et := take_more hx
    refine ⟨hw x, ht x hm _ p.1 _ fun H2 e2 => ?_⟩
    cases hf : f x with
    | true =>
      rw [if_pos rfl]
      refine he x hm hf H2 (p.1.trans e2) _ fun H3 e3 => ⟨_, e3 _ _ (e2 _ _ p.2), ?_, ?_, ?_⟩
      · have z1 := List.length_filter_le f (xs.take i)
        rw [List.length_map]
        rw [List.length_take] at z1
        exact sz' (by omega)
      · exact Same.mut ((p.1.trans e2).trans e3) hD
      · rw [et, List.filter_append, List.map_append, upd_same]
        simp [List.filter, hf]
    | false =>
      rw [if_neg Bool.false_ne_true]
      refine ⟨p.1.trans e2, ?_⟩
      rw [et, List.filter_append, List.map_append]
      simp [List.filter, hf]
      exact e2 _ _ p.2
  · intro H' p
    rw [← hn, List.take_length] at p
    exact k D H' hD p.1 p.2
def signs (z : Str) : List V := z.cps.toList.map fun c => .str ⟨#[c]⟩
theorem signs_len (z : Str) : (signs z).length = z.cps.size := by unfold signs; rw [List.length_map, Array.length_toList]
/-- .. over a text's signs -/
theorem lc_S {z : Str} {j : Nat} {vs : List Nat} (hz : z.cps.size ≤ 100000) (f : V → Bool) (v : V → V) (hw : ∀ x, wipe ((wipe σ vs).set j (some x)) vs = wipe σ vs)
    (ht : ∀ x, x ∈ signs z → ∀ H1, Same H H1 → ∀ Q : Bool → Hp → Prop, (∀ H2, Same H1 H2 → Q (f x) H2) → t ((wipe σ vs).set j (some x)) H1 Q)
    (he : ∀ x, x ∈ signs z → f x = true → ∀ H1, Same H H1 → ∀ Q : VK, (∀ H2, Same H1 H2 → Q (v x) H2) → te ((wipe σ vs).set j (some x)) H1 Q)
    (k : ∀ p H2, H p = none → Same H H2 → H2 p = some (.lst (((signs z).filter f).map v)) → Q (.ref p) H2) : LcJ (Its z) (gName j) t te vs σ H Q :=
  lc_J walk_str (signs_len z) (fun i H x H' ⟨e, c, hc, hx⟩ => ⟨e, by unfold signs; rw [List.getElem?_map, Array.getElem?_toList, hc, hx]; rfl⟩) (by rw [signs_len]; exact hz) f v hw ht he k
theorem walk_rg {lo : Int} {n : Nat} : Walk (Itr lo n) n (fun _ => True) (fun i H x H' => H' = H ∧ x = .int (lo + (i : Nat)) ∧ i < n) :=
  ⟨fun _ _ h _ => h, fun _ _ => Nat.le_refl _, fun i H x H' h _ y => ⟨y.1, y.2, h⟩⟩
def intsV (lo : Int) (n : Nat) : List V := (List.range n).map fun i => V.int (lo + (i : Nat))
/-- .. over a range -/
theorem lc_R {lo : Int} {n : Nat} {j : Nat} {vs : List Nat} (hz : n ≤ 100000) (f : V → Bool) (v : V → V) (hw : ∀ x, wipe ((wipe σ vs).set j (some x)) vs = wipe σ vs)
    (ht : ∀ x, x ∈ intsV lo n → ∀ H1, Same H H1 → ∀ Q : Bool → Hp → Prop, (∀ H2, Same H1 H2 → Q (f x) H2) → t ((wipe σ vs).set j (some x)) H1 Q)
    (he : ∀ x, x ∈ intsV lo n → f x = true → ∀ H1, Same H H1 → ∀ Q : VK, (∀ H2, Same H1 H2 → Q (v x) H2) → te ((wipe σ vs).set j (some x)) H1 Q)
    (k : ∀ p H2, H p = none → Same H H2 → H2 p = some (.lst (((intsV lo n).filter f).map v)) → Q (.ref p) H2) : LcJ (Itr lo n) (gName j) t te vs σ H Q :=
  lc_J walk_rg (by unfold intsV; rw [List.length_map, List.length_range]) (fun i H x H' ⟨e, hx, hi⟩ => ⟨e, by unfold intsV; rw [List.getElem?_map, List.getElem?_range hi, hx]; rfl⟩) (by unfold intsV; rw [List.length_map, List.length_range]; exact hz) f v hw ht he k
theorem x_yes {Q : Bool → Hp → Prop} (q : Q true H) : tYes σ H Q := q
/-! texts -/
def rLenS : List V → Hp → VK → Prop := fun xs H Q => ∃ z, xs = [.str z] ∧ z.length ≤ sizeLine ∧ Q (.int z.length) H
theorem call_lenS {X : Cx} : CallR X (.builtin "len") rLenS := call_len_str
theorem x_lenS {z : Str} (h : z.length ≤ 100000) (q : Q (.int z.length) H) : rLenS [.str z] H Q := ⟨z, rfl, sz h, q⟩
def rAddS : R2 := fun x y H Q => ∃ i j, x = .str i ∧ y = .str j ∧ i.length + j.length ≤ sizeLine ∧ Q (.str (i ++ j)) H
theorem op_addS {X : Cx} : OpR X (binaryOp .Add) rAddS := op_add_str
theorem x_addS {a b : Str} (h : a.length + b.length ≤ 100000) (q : Q (.str (a ++ b)) H) : rAddS (.str a) (.str b) H Q := ⟨a, b, rfl, rfl, sz h, q⟩
def rInS (neg : Bool) : R2 := fun x y H Q => ∃ (c : Nat) (z : Str), x = .str ⟨#[c]⟩ ∧ y = .str z ∧ Q (.bl (if neg then !decide (c ∈ z.cps.toList) else decide (c ∈ z.cps.toList))) H
theorem op_inS {X : Cx} : OpR X (compareOp .In) (rInS false) := op_in_sign
theorem op_niS {X : Cx} : OpR X (compareOp .NotIn) (rInS true) := op_notIn_sign
theorem x_inS {c : Nat} {z : Str} (q : Q (.bl (decide (c ∈ z.cps.toList))) H) : rInS false (.str ⟨#[c]⟩) (.str z) H Q := ⟨c, z, rfl, rfl, q⟩
theorem x_niS {c : Nat} {z : Str} (q : Q (.bl (!decide (c ∈ z.cps.toList))) H) : rInS true (.str ⟨#[c]⟩) (.str z) H Q := ⟨c, z, rfl, rfl, q⟩
theorem x_ixS {z : Str} {i : Int} {c : Nat} (h : z.length ≤ 100000) (e : atI z.cps.toList i = some c) (q : Q (.str ⟨#[c]⟩) H) : rIxS (.str z) (.int i) H Q := ⟨z, i, c, rfl, rfl, sz h, e, q⟩
theorem x_sl {r : V → Option Int → Option Int → Hp → VK → Prop} {lo hi : TO} (h : te σ H fun x H1 => lo σ H1 fun l H2 => hi σ H2 fun u H3 => r x l u H3 Q) : tSl r te lo hi σ H Q := h
theorem x_noPart {Q : Option Int → Hp → Prop} (q : Q none H) : tNoPart σ H Q := q
def PaV (x : V) (H : Hp) (Q : Option Int → Hp → Prop) : Prop := ∃ i, x = .int i ∧ Q (some i) H
theorem pav {i : Int} {Q : Option Int → Hp → Prop} (q : Q (some i) H) : PaV (.int i) H Q := ⟨i, rfl, q⟩
theorem x_part {Q : Option Int → Hp → Prop} (h : te σ H fun x H1 => PaV x H1 Q) : tPart te σ H Q := h
theorem x_slS {z : Str} {lo hi : Option Int} (h : z.length ≤ 100000) (q : Q (.str (cutS z lo hi)) H) : rSlS (.str z) lo hi H Q := ⟨z, rfl, sz h, q⟩
def JnV (K : PySem.W.Frag) (te : TE) (σ : L2.St) (x : V) (H : Hp) (Q : VK) : Prop := (∃ a, x = .str a) ∧ te σ H fun y H2 => ∃ a p, ∃ ys : List Str, x = .str a ∧ [y] = [.ref p] ∧ (SqL K H2 p (ys.map V.str) ∨ SqT K H2 p (ys.map V.str)) ∧
  (ys.map (·.length)).sum + ys.length * a.length ≤ 16777216 ∧ Q (.str (Txt.join a ys)) H2
def JnW (K : PySem.W.Frag) (a : Str) (y : V) (H2 : Hp) (Q : VK) : Prop := ∃ a' p, ∃ ys : List Str, V.str a = .str a' ∧ [y] = [.ref p] ∧ (SqL K H2 p (ys.map V.str) ∨ SqT K H2 p (ys.map V.str)) ∧
  (ys.map (·.length)).sum + ys.length * a'.length ≤ 16777216 ∧ Q (.str (Txt.join a' ys)) H2
theorem x_jnv {a : Str} (h : te σ H fun y H2 => JnW K a y H2 Q) : JnV K te σ (.str a) H Q := ⟨⟨a, rfl⟩, h⟩
theorem x_jnw {a : Str} {p : Addr} {ys : List Str} (h : SqL K H p (ys.map V.str)) (hz : (ys.map (·.length)).sum + ys.length * a.length ≤ 100000) (q : Q (.str (Txt.join a ys)) H) : JnW K a (.ref p) H Q := ⟨a, p, ys, rfl, rfl, .inl h, Nat.le_trans hz (by decide), q⟩
def tJoin (K : PySem.W.Frag) (to te : TE) : TE := fun σ H Q => to σ H fun x H1 => JnV K te σ x H1 Q
theorem x_join {to : TE} (h : to σ H fun x H1 => JnV K te σ x H1 Q) : tJoin K to te σ H Q := h
theorem pe_joinN {X : Cx} {o e : Expr} {to te : TE} {apos pos : Pos} (ho : PE X o to) (he : PE X e te) (hs : starEach [e] X.env = [(false, eval e X.env)] := by rfl) (hbase : attributeBase o "join" X.env (eval o X.env) = eval o X.env := by rfl) (hline : (apos.endLine == pos.line) = true := by rfl) :
    PE X (.Call (.Attribute o "join" apos) [e] [] pos) (tJoin X.K to te) := pe_join ho he hs hbase hline
/-! tuples, bools, lists of, unpacking -/
theorem x_slA {p : Addr} {xs : List V} {lo hi : Option Int} (h : SqT K H p xs) (k : ∀ p' H2, Same H H2 → SqT K H2 p' (cutV xs lo hi) → Q (.ref p') H2) : rSlA K (.ref p) lo hi H Q := by
  refine ⟨p, xs, rfl, h, fun hw => ?_, fun hw q hq => k q _ (Same.new hq) (SqT.of upd_same)⟩
  have e : cutV xs lo hi = xs := by
    unfold cutV
    rw [hw.1, hw.2, List.drop_zero, Nat.sub_zero, List.take_length]
  exact k p H (Same.refl H) (by rw [e]; exact h)
theorem x_catA {p q : Addr} {xs ys : List V} (h1 : SqT K H p xs) (h2 : SqT K H q ys) (hl : xs.length + ys.length ≤ 100000) (k : ∀ p' H2, Same H H2 → SqT K H2 p' (xs ++ ys) → Q (.ref p') H2) : rCatA K (.ref p) (.ref q) H Q := by
  refine ⟨p, q, xs, ys, rfl, rfl, h1, h2, sz hl, fun e => ?_, fun _ e => ?_, fun _ _ r hr => k r _ (Same.new hr) (SqT.of upd_same)⟩
  · exact k q H (Same.refl H) (by rw [e]; exact h2)
  · exact k p H (Same.refl H) (by rw [e, List.append_nil]; exact h1)
def rIsB (neg : Bool) : R2 := fun x y H Q => ∃ a b, x = .bl a ∧ y = .bl b ∧ Q (.bl (if neg then !decide (a = b) else decide (a = b))) H
theorem op_isB {X : Cx} : OpR X (compareOp .Is) (rIsB false) := op_is_bl
theorem op_isnB {X : Cx} : OpR X (compareOp .IsNot) (rIsB true) := op_isnot_bl
theorem x_isB {b c : Bool} (q : Q (.bl (decide (b = c))) H) : rIsB false (.bl b) (.bl c) H Q := ⟨b, c, rfl, rfl, q⟩
theorem x_isnB {b c : Bool} (q : Q (.bl (!decide (b = c))) H) : rIsB true (.bl b) (.bl c) H Q := ⟨b, c, rfl, rfl, q⟩
theorem x_gtup {n : Nat} {tg : TGs} {a : Addr} {xs : List V} {Q : L2.St → Hp → Prop} (h : SqT K H a xs) (e : xs.length = n) (q : tg xs σ H Q) : gTup K n tg (.ref a) σ H Q := ⟨a, xs, rfl, h, e, q⟩
theorem x_gcons {tg : TGs} {v : V} {r : List V} {Q : L2.St → Hp → Prop} (q : g v σ H fun σ' H' => tg r σ' H' Q) : gCons g tg (v :: r) σ H Q := ⟨v, r, rfl, q⟩
theorem x_gnil {Q : L2.St → Hp → Prop} (q : Q σ H) : gNil [] σ H Q := ⟨rfl, q⟩
def rInt1 : List V → Hp → VK → Prop := fun xs H Q => (∃ i, xs = [.int i] ∧ Q (.int i) H) ∨ ∃ k, xs = [.bl k] ∧ Q (.int (if k then 1 else 0)) H
theorem call_intB {X : Cx} : CallR X (.type "int") rInt1 := call_int1
theorem x_intB {b : Bool} (q : Q (.int (if b then 1 else 0)) H) : rInt1 [.bl b] H Q := .inr ⟨b, rfl, q⟩
theorem x_dnew (k : ∀ p H2, H p = none → Same H H2 → H2 p = some (.dK []) → Q (.ref p) H2) : tDNewK σ H Q := fun p hp => k p _ hp (Same.new hp) upd_same
def rListOf (K : PySem.W.Frag) : List V → Hp → VK → Prop := fun xs H Q => ∃ p ys, xs = [.ref p] ∧ (SqL K H p ys ∨ SqT K H p ys) ∧ ∀ l, H l = none → Q (.ref l) (upd H l (.lst ys))
theorem call_listOf {X : Cx} : CallR X (.type "list") (rListOf X.K) := call_list_of
theorem x_listOf {p : Addr} {ys : List V} (h : SqL K H p ys ∨ SqT K H p ys) (k : ∀ l H2, H l = none → Same H H2 → H2 l = some (.lst ys) → Q (.ref l) H2) : rListOf K [.ref p] H Q := ⟨p, ys, rfl, h, fun l hl => k l _ hl (Same.new hl) upd_same⟩
theorem x_all {p : Addr} {bs : List Bool} (h : SqL K H p (bs.map V.bl)) (q : Q (.bl (bs.all id)) H) : rAll K [.ref p] H Q := ⟨p, bs, rfl, h, q⟩
theorem x_any {p : Addr} {bs : List Bool} (h : SqL K H p (bs.map V.bl)) (q : Q (.bl (bs.any id)) H) : rAny K [.ref p] H Q := ⟨p, bs, rfl, h, q⟩
theorem x_ixQ {p : Addr} {xs : List V} {i : Int} {v : V} (h : SqT K H p xs) (e : atI xs i = some v) (q : Q v H) : rIx K (.ref p) (.int i) H Q := .inr (.inl ⟨p, xs, i, v, rfl, rfl, h, e, q⟩)
def OrV (K : PySem.W.Frag) (x : V) (H : Hp) (Q : VK) (R : Hp → VK → Prop) : Prop := ∃ k, TruV K x H k ∧ if k = true then Q x H else R H Q
theorem x_orT (h : ta σ H fun x H1 => OrV K x H1 Q (tb σ)) : tOrT K ta tb σ H Q := h
theorem orv {k : Bool} {R : Hp → VK → Prop} (h : TruV K x H k) (q : Br k (Q x H) (R H Q)) : OrV K x H Q R := ⟨k, h, q⟩
def rIsTy : R2 := fun x y H Q => ∃ a b, x = .ty a ∧ y = .ty b ∧ Q (.bl (decide (a = b))) H
theorem op_isTy {X : Cx} : OpR X (compareOp .Is) rIsTy := op_isTyB
theorem x_isTy {a b : String} (q : Q (.bl (decide (a = b))) H) : rIsTy (.ty a) (.ty b) H Q := ⟨a, b, rfl, rfl, q⟩
theorem x_niTy {a b : String} (q : Q (.bl (!decide (a = b))) H) : rNT (.ty a) (.ty b) H Q := ⟨a, b, rfl, rfl, q⟩
def rIntS : List V → Hp → VK → Prop := fun xs H Q => ∃ a n, xs = [.str a] ∧ PySem.intText? a = some n ∧ a.length ≤ 640 ∧ Q (.int n) H
theorem call_intS {X : Cx} : CallR X (.type "int") rIntS := call_int_str
theorem x_intS {z : Str} {n : Int} (e : PySem.intText? z = some n) (h : z.length ≤ 640) (q : Q (.int n) H) : rIntS [.str z] H Q := ⟨z, n, rfl, e, h, q⟩
def rStrI : List V → Hp → VK → Prop := fun xs H Q => ∃ i, xs = [.int i] ∧ i.natAbs.log2 < 1920 ∧ Q (.str (toString i)) H
theorem call_strI {X : Cx} : CallR X (.type "str") rStrI := call_str_int
theorem x_strI {i : Int} (h : i.natAbs.log2 < 1920) (q : Q (.str (toString i)) H) : rStrI [.int i] H Q := ⟨i, rfl, h, q⟩
theorem x_glst {n : Nat} {tg : TGs} {a : Addr} {xs : List V} {Q : L2.St → Hp → Prop} (h : SqL K H a xs) (e : xs.length = n) (q : tg xs σ H Q) : gLst K n tg (.ref a) σ H Q := ⟨a, xs, rfl, h, e, q⟩
def SpV (te : TE) (σ : L2.St) (x : V) (H : Hp) (Q : VK) : Prop := (∃ a, x = .str a) ∧ te σ H fun y H2 => ∃ a b, x = .str a ∧ [y] = [.str b] ∧ (b.length == 0) = false ∧ a.length + 2 ≤ sizeLine ∧ rNewStrs (Txt.split a b) H2 Q
def SpW (a : Str) (y : V) (H2 : Hp) (Q : VK) : Prop := ∃ a' b, V.str a = .str a' ∧ [y] = [.str b] ∧ (b.length == 0) = false ∧ a'.length + 2 ≤ sizeLine ∧ rNewStrs (Txt.split a' b) H2 Q
def tSplit (to te : TE) : TE := fun σ H Q => to σ H fun x H1 => SpV te σ x H1 Q
theorem x_split {to : TE} (h : to σ H fun x H1 => SpV te σ x H1 Q) : tSplit to te σ H Q := h
theorem x_spv {a : Str} (h : te σ H fun y H2 => SpW a y H2 Q) : SpV te σ (.str a) H Q := ⟨⟨a, rfl⟩, h⟩
theorem x_spw {a b : Str} (hb : (b.length == 0) = false) (hz : a.length ≤ 100000) (k : ∀ p H2, H p = none → Same H H2 → H2 p = some (.lst ((Txt.split a b).map V.str)) → Q (.ref p) H2) : SpW a (.str b) H Q :=
  ⟨a, b, rfl, rfl, hb, Nat.le_trans (Nat.add_le_add_right hz 2) (by decide), fun p hp => k p _ hp (Same.new hp) upd_same⟩
theorem pe_splitN {X : Cx} {o e : Expr} {to te : TE} {apos pos : Pos} (ho : PE X o to) (he : PE X e te) (hs : starEach [e] X.env = [(false, eval e X.env)] := by rfl) (hbase : attributeBase o "split" X.env (eval o X.env) = eval o X.env := by rfl) (hline : (apos.endLine == pos.line) = true := by rfl) :
    PE X (.Call (.Attribute o "split" apos) [e] [] pos) (tSplit to te) := pe_split ho he hs hbase hline
def SetLV (v o i : V) (H : Hp) (Q : Hp → Prop) : Prop := rSetL o i v H Q
theorem x_gsub {to ti : TE} {v : V} {Q : L2.St → Hp → Prop} (h : to σ H fun o H1 => ti σ H1 fun i H2 => SetLV v o i H2 fun H3 => Q σ H3) : gSub to ti rSetL v σ H Q := h
/-- xs[j] = v of a list of one's own: nothing else changes -/
theorem setLV {p : Addr} {xs : List V} {i : Int} {j : Nat} {v : V} {Q : Hp → Prop} (h : H p = some (.lst xs)) (e : ixN xs.length i = some j) (k : ∀ H', (∀ b o, H b = some o → b ≠ p → H' b = some o) → H' p = some (.lst (xs.set j v)) → Q H') : SetLV v (.ref p) (.int i) H Q :=
  ⟨p, xs, i, j, rfl, rfl, h, e, k _ (fun b o q hb => by rw [upd_ne hb]; exact q) upd_same⟩
def tFmt2 (te : TE) : TE := fun σ H Q => te σ H fun x H1 => (∃ y : Str, x = .str y ∧ y.length ≤ sizeLine ∧ Q (.str y) H1) ∨ ∃ i : Int, x = .int i ∧ i.natAbs.log2 < 1920 ∧ Q (.str (toString i)) H1
def FmV (x : V) (H1 : Hp) (Q : VK) : Prop := (∃ y : Str, x = .str y ∧ y.length ≤ sizeLine ∧ Q (.str y) H1) ∨ ∃ i : Int, x = .int i ∧ i.natAbs.log2 < 1920 ∧ Q (.str (toString i)) H1
theorem x_fmt (h : te σ H fun x H1 => FmV x H1 Q) : tFmt te σ H Q := h
theorem fm_s {y : Str} (h : y.length ≤ 100000) (q : Q (.str y) H) : FmV (.str y) H Q := .inl ⟨y, rfl, sz h, q⟩
theorem fm_i {i : Int} (h : i.natAbs.log2 < 1920) (q : Q (.str (toString i)) H) : FmV (.int i) H Q := .inr ⟨i, rfl, h, q⟩
def JsV (ts : List TE) (acc : Str) (σ : L2.St) (x : V) (H1 : Hp) (Q : Str → Hp → Prop) : Prop := ∃ y : Str, x = .str y ∧ (acc ++ y).length ≤ sizeLine ∧ tJs ts (acc ++ y) σ H1 Q
theorem x_js0 {acc : Str} {Q : Str → Hp → Prop} (q : Q acc H) : tJs [] acc σ H Q := q
theorem x_js {ts : List TE} {acc : Str} {Q : Str → Hp → Prop} (h : te σ H fun x H1 => JsV ts acc σ x H1 Q) : tJs (te :: ts) acc σ H Q := h
theorem jsv {ts : List TE} {acc y : Str} {Q : Str → Hp → Prop} (h : (acc ++ y).length ≤ 100000) (q : tJs ts (acc ++ y) σ H Q) : JsV ts acc σ (.str y) H Q := ⟨y, rfl, sz h, q⟩
/-- a for over a list whose target is any -/
theorem for_Lg {tb : TS} {D : Ends} {a : Addr} {xs : List V} (hx : SqL K H a xs) (Pv : Nat → L2.St → Hp → Prop) (h0 : Pv 0 σ H) (hl : ∀ i σ H, i ≤ xs.length → Pv i σ H → SqL K H a xs)
    (hs : ∀ i x σ H, xs[i]? = some x → Pv i σ H → g x σ H fun σ2 H2 => tb { nx := Pv (i + 1), rt := D.rt, ct := Pv (i + 1), bk := D.nx } σ2 H2) (hd : ∀ σ H, Pv xs.length σ H → D.nx σ H) : ForL K g tb D σ (.ref a) H :=
  ⟨a, rfl, ⟨xs, hx⟩, for_list (xs := xs) Pv h0 hl (fun i x σ H e p => hs i x σ H e p) hd⟩
/-- a value's type by isinstance -/
theorem ty_x {T : String} (h : TyB K H x T) : TyX K H x (.type T) := by
  cases h with
  | non => exact .base .non
  | bl b => exact .base (.bl b)
  | int i => exact .base (.int i)
  | str z => exact .base (.str z)
  | byt b => exact .byt b
  | lst h =>
    rcases h with (h | ⟨o, h⟩) | ⟨o, its, n, hk, hc, _⟩
    · exact .base (.lst h)
    · exact .base (.frz h)
    · exact .kList hk hc
  | tup h =>
    rcases h with (h | ⟨o, h⟩) | ⟨o, its, n, hk, hc, _⟩
    · exact .base (.tup h)
    · exact .fTuple h
    · exact .kTuple hk hc
  | dK h => exact .base (.dK h)
theorem x_isiT {T n : String} {b : Bool} (h : TyB K H x T) (e : kitB T n = some b) (q : Q (.bl b) H) : rIsi K [x, .ty n] H Q := x_isi (.ty n) (ty_x h) (kit_ty e) q
end
end LH
/-! more readings: while, range(a, b), min, pop at a place, how many different ints -/
namespace LH
open PySem L2
section
variable {K : PySem.W.Frag} {σ : L2.St} {H : Hp} {Q : VK} {D : Ends} {te tl ta tb : TE} {tr : TA} {c : TT} {t : TS} {g : TG} {x y : V}
/-! range(a, b) -/
def Rn2V (vs : List V) (H : Hp) (R : It → Hp → Prop) : Prop := ∃ i j : Int, vs = [.int i, .int j] ∧ (-(2 ^ 62) ≤ i ∧ i < 2 ^ 62 ∧ -(2 ^ 62) ≤ j ∧ j < 2 ^ 62) ∧ R (Itr i (j - i).toNat) H
theorem rn2v {i j : Int} {R : It → Hp → Prop} (h1 : -100000 ≤ i ∧ i ≤ 100000) (h2 : -100000 ≤ j ∧ j ≤ 100000) (h : R (Itr i (j - i).toNat) H) : Rn2V [.int i, .int j] H R := ⟨i, j, rfl, ⟨by omega, by omega, by omega, by omega⟩, h⟩
theorem x_forR2 (h : tr σ H fun v H1 => Rn2V v H1 fun J H2 => ForJ J g t D σ H2) : tFor (iRng2 tr) g t D σ H := h
/-! while -/
def WhB (W : Nat → L2.St → Hp → Prop) (m : Nat) (t : TS) (D : Ends) (σ : L2.St) (b : Bool) (H1 : Hp) : Prop :=
  if b = true then ∃ N : L2.St → Hp → Prop, (∀ σ' H', N σ' H' → ∃ m', m' < m ∧ W m' σ' H') ∧ t { D with nx := N, ct := N, bk := D.nx } σ H1 else D.nx σ H1
theorem while_m (W : Nat → L2.St → Hp → Prop) (m0 : Nat) (h0 : W m0 σ H) (hs : ∀ m σ H, W m σ H → c σ H (WhB W m t D σ)) : tWhile c t D σ H := ⟨W, ⟨m0, h0⟩, hs⟩
theorem whb {W : Nat → L2.St → Hp → Prop} {m : Nat} {b : Bool} (h1 : b = true → t { D with nx := fun σ' H' => ∃ m', m' < m ∧ W m' σ' H', ct := fun σ' H' => ∃ m', m' < m ∧ W m' σ' H', bk := D.nx } σ H) (h2 : b = false → D.nx σ H) : WhB W m t D σ b H := by
  unfold WhB
  cases b with
  | false => rw [if_neg Bool.false_ne_true]; exact h2 rfl
  | true => rw [if_pos rfl]; exact ⟨_, fun _ _ q => q, h1 rfl⟩
/-! min, max of two ints -/
def rMinI : List V → Hp → VK → Prop := fun xs H Q => ∃ i j, xs = [.int i, .int j] ∧ Q (.int (if j < i then j else i)) H
theorem call_minI {X : Cx} (hc : X.calm = true) : CallR X (.builtin "min") rMinI := call_min2 hc
theorem x_minI {i j : Int} (q : Q (.int (min i j)) H) : rMinI [.int i, .int j] H Q := ⟨i, j, rfl, by
  have e : (if j < i then j else i) = min i j := by
    split <;> omega
  rw [e]; exact q⟩
/-! xs.pop(i) of a list of one's own -/
theorem x_popAt {p : Addr} {xs : List V} {i : Int} {k : Nat} {y : V} (h : H p = some (.lst xs)) (h1 : -100000 ≤ i) (h2 : i ≤ 100000) (hk : seqIndex? i xs.length = some k) (hy : xs[k]? = some y)
    (q : ∀ H', (∀ b o, H b = some o → b ≠ p → H' b = some o) → H' p = some (.lst (xs.eraseIdx k)) → Q y H') : rPopAt (.ref p) [.int i] H Q :=
  ⟨p, xs, i, k, y, rfl, rfl, h, by omega, by omega, hk, hy, q _ (fun b o e hb => by rw [upd_ne hb]; exact e) upd_same⟩
/-- xs.append(y) to a list of one's own -/
theorem x_app {p : Addr} {xs : List V} {y : V} (h : H p = some (.lst xs)) (hl : xs.length ≤ 100000)
    (q : ∀ H', (∀ b o, H b = some o → b ≠ p → H' b = some o) → H' p = some (.lst (xs ++ [y])) → Q .non H') : rAppend (.ref p) [y] H Q :=
  ⟨p, xs, y, rfl, rfl, h, sz' hl, q _ (fun b o e hb => by rw [upd_ne hb]; exact e) upd_same⟩
theorem Same.set {H0 H H' : Hp} {p : Addr} (e : L2.Same H0 H) (f : H0 p = none) (k : ∀ b o, H b = some o → b ≠ p → H' b = some o) : L2.Same H0 H' := fun b o h => k b o (e b o h) fun q => by
  rw [q, f] at h
  cases h
theorem Same.none {H H' : Hp} {p : Addr} (e : L2.Same H H') (h : H' p = none) : H p = none := by
  cases hq : H p with
  | none => rfl
  | some o => rw [e _ _ hq] at h; cases h
theorem perm_erase {α : Type} : ∀ (l : List α) (j : Nat) (h : j < l.length), (l[j] :: l.eraseIdx j).Perm l
  | [], j, h => absurd h (Nat.not_lt_zero _)
  | a :: l, 0, _ => List.Perm.refl _
  | a :: l, j + 1, h => (List.Perm.swap a (l[j]'(Nat.lt_of_succ_lt_succ h)) (l.eraseIdx j)).trans ((perm_erase l j (Nat.lt_of_succ_lt_succ h)).cons a)
theorem map_erase {α β : Type} (f : α → β) : ∀ (l : List α) (j : Nat), (l.map f).eraseIdx j = (l.eraseIdx j).map f
  | [], _ => rfl
  | _ :: _, 0 => rfl
  | a :: l, j + 1 => congrArg (fun z => f a :: z) (map_erase f l j)
/-- a comprehension over a list, by what becomes of each item: nothing, or a value -/
theorem lc_Li {a : Addr} {xs : List V} {j : Nat} {vs : List Nat} {t : TT} (hx : SqL K H a xs) (hz : xs.length ≤ 100000) (out : List (Option V)) (hn : out.length = xs.length)
    (hw : ∀ x, wipe ((wipe σ vs).set j (some x)) vs = wipe σ vs)
    (ht : ∀ (i : Nat) x o, xs[i]? = some x → out[i]? = some o → ∀ H1, L2.Same H H1 → ∀ Q : Bool → Hp → Prop, (∀ H2, L2.Same H1 H2 → Q o.isSome H2) → t ((wipe σ vs).set j (some x)) H1 Q)
    (he : ∀ (i : Nat) x y, xs[i]? = some x → out[i]? = some (some y) → ∀ H1, L2.Same H H1 → ∀ Q : VK, (∀ H2, L2.Same H1 H2 → Q y H2) → te ((wipe σ vs).set j (some x)) H1 Q)
    (k : ∀ p H2, H p = none → L2.Same H H2 → H2 p = some (.lst (out.filterMap id)) → Q (.ref p) H2) : LcV K (gName j) t te vs σ (.ref a) H Q := by
  refine ⟨a, rfl, ⟨xs, hx⟩, fun D hD => ?_⟩
  refine lc_list (xs := xs) (fun i H' => L2.Same H H' ∧ H' D = some (.lst ((out.take i).filterMap id))) ⟨LH.Same.new hD, upd_same⟩ (fun i H' _ p => Same.seq p.1 hx) ?_ ?_
  · intro i x H' hi p
    have hlt : i < xs.length := (List.getElem?_eq_some_iff.mp hi).1
    have ho : out[i]? = some (out[i]'(by omega)) := List.getElem?_eq_getElem (by omega)
    generalize out[i]'(by omega) = o at ho
    have et := take_more ho
    have small : ((out.take i).filterMap id).length ≤ 100000 := by
      have z1 := List.length_filterMap_le id (out.take i)
      rw [List.length_take] at z1
      omega
    refine ⟨hw x, ht i x o hi ho H' p.1 _ fun H2 e2 => ?_⟩
    cases o with
    | some y =>
      show (if true = true then _ else _)
      rw [if_pos rfl]
      refine he i x y hi ho H2 (p.1.trans e2) _ fun H3 e3 => ⟨_, e3 _ _ (e2 _ _ p.2), sz' small, ?_, ?_⟩
      · exact Same.mut ((p.1.trans e2).trans e3) hD
      · rw [et, List.filterMap_append, upd_same]
        rfl
    | none =>
      show (if false = true then _ else _)
      rw [if_neg Bool.false_ne_true]
      refine ⟨p.1.trans e2, ?_⟩
      rw [et, List.filterMap_append]
      have := e2 _ _ p.2
      simpa using this
  · intro H' p
    rw [← hn, List.take_length] at p
    exact k D H' hD p.1 p.2
/-- a comprehension whose items are objects of their own: the i-th holds ob i, which is no list -/
theorem lc_N {a : Addr} {xs : List V} {j : Nat} {vs : List Nat} {t : TT} (hx : SqL K H a xs) (hz : xs.length ≤ 100000) (ob : Nat → HO) (no : ∀ i l, ob i ≠ .lst l)
    (hw : ∀ x, wipe ((wipe σ vs).set j (some x)) vs = wipe σ vs)
    (ht : ∀ x, x ∈ xs → ∀ H1, L2.Same H H1 → ∀ Q : Bool → Hp → Prop, (∀ H2, L2.Same H1 H2 → Q true H2) → t ((wipe σ vs).set j (some x)) H1 Q)
    (he : ∀ (i : Nat) x, xs[i]? = some x → ∀ H1, L2.Same H H1 → ∀ Q : VK, (∀ p H2, L2.Same H1 H2 → H2 p = some (ob i) → Q (.ref p) H2) → te ((wipe σ vs).set j (some x)) H1 Q)
    (k : ∀ p H2 ys, H p = none → L2.Same H H2 → H2 p = some (.lst ys) → ys.length = xs.length → (∀ i y, ys[i]? = some y → ∃ p, y = .ref p ∧ H2 p = some (ob i)) → Q (.ref p) H2) : LcV K (gName j) t te vs σ (.ref a) H Q := by
  refine ⟨a, rfl, ⟨xs, hx⟩, fun D hD => ?_⟩
  refine lc_list (xs := xs) (fun i H' => L2.Same H H' ∧ ∃ ys : List V, H' D = some (.lst ys) ∧ ys.length = i ∧ ∀ i y, ys[i]? = some y → ∃ p, y = .ref p ∧ H' p = some (ob i)) ⟨LH.Same.new hD, [], upd_same, rfl, fun i y h => nomatch h⟩ (fun i H' _ p => Same.seq p.1 hx) ?_ ?_
  · rintro i x H' hi ⟨e0, ys, gD, ly, hy⟩
    have hlt : i < xs.length := (List.getElem?_eq_some_iff.mp hi).1
    refine ⟨hw x, ht x (List.mem_of_getElem? hi) H' e0 _ fun H2 e2 => ?_⟩
    show (if true = true then _ else _)
    rw [if_pos rfl]
    refine he i x hi H2 (e0.trans e2) _ fun p H3 e3 g3 => ⟨ys, e3 _ _ (e2 _ _ gD), sz' (by omega), ?_, ys ++ [.ref p], upd_same, by rw [List.length_append, ly]; rfl, fun m y hm => ?_⟩
    · exact Same.mut ((e0.trans e2).trans e3) hD
    · have other : ∀ b o, H3 b = some o → (∀ l, o ≠ .lst l) → upd H3 D (.lst (ys ++ [.ref p])) b = some o := fun b o hb hl => by
        rw [upd_ne (fun q => by
          rw [q, e3 _ _ (e2 _ _ gD)] at hb
          injection hb with hb
          exact hl _ hb.symm)]
        exact hb
      by_cases h : m < ys.length
      · rw [List.getElem?_append_left h] at hm
        obtain ⟨p1, e1, g1⟩ := hy m y hm
        exact ⟨p1, e1, other _ _ (e3 _ _ (e2 _ _ g1)) (no m)⟩
      · rw [List.getElem?_append_right (by omega)] at hm
        have hm0 : m - ys.length = 0 := by
          cases hq : m - ys.length with
          | zero => rfl
          | succ z => rw [hq] at hm; cases hm
        rw [hm0] at hm
        injection hm with hm
        have : m = i := by omega
        subst this
        exact ⟨p, hm.symm, other _ _ g3 (no m)⟩
  · rintro H' ⟨e0, ys, gD, ly, hy⟩
    exact k D H' ys hD e0 gD ly hy
/-- two ways that meet again: what follows, R, is proved once -/
theorem join {α : Type} {A : Prop} {R : α → Hp → Prop} (X : α → Hp → Prop) (hA : (∀ y H', X y H' → R y H') → A) (h : ∀ y H', X y H' → R y H') : A := hA h
/-! tuple(xs) of a list; != of plain data or of two dicts -/
def rTupL (K : PySem.W.Frag) : List V → Hp → VK → Prop := fun xs H Q => ∃ p ys, xs = [.ref p] ∧ ((SqL K H p ys ∧ ∀ l, H l = none → Q (.ref l) (upd H l (.tup ys))) ∨ (SqT K H p ys ∧ Q (.ref p) H))
theorem call_tupL {X : Cx} : CallR X (.type "tuple") (rTupL X.K) := call_tuple_of
theorem x_tupL {p : Addr} {ys : List V} (h : SqL K H p ys) (k : ∀ l H2, H l = none → L2.Same H H2 → H2 l = some (.tup ys) → Q (.ref l) H2) : rTupL K [.ref p] H Q := ⟨p, ys, rfl, .inl ⟨h, fun l hl => k l _ hl (LH.Same.new hl) upd_same⟩⟩
def rNeX (K : PySem.W.Frag) : R2 := fun x y H Q => rNeD K x y H Q ∨ rNeDA x y H Q
theorem op_neX {X : Cx} (hu : X.A.units + 64 < cLine) : OpR X (compareOp .NotEq) (rNeX X.K) := (op_neD hu).or (op_ne_dictA (by omega))
theorem x_neX {d : PyData} (hx : Dp K H x d) (sd : SeqAt.shaped d = true) (hy : Dp K H y d) (q : Q (.bl false) H) : rNeX K x y H Q := .inl ⟨d, d, hx, hy, sd, sd, by
  have e : PyData.eqv d d = true := by
    unfold SeqAt.shaped at sd
    rw [Bool.and_eq_true] at sd
    exact SeqAt.eqv_refl _ sd.1
  rw [e]
  exact q⟩
theorem x_neX0 {p : Addr} (h : H p = some (.dK [])) (q : Q (.bl false) H) : rNeX K (.ref p) (.ref p) H Q := .inr ⟨p, p, [], [], rfl, rfl, h, h, rfl, (fun _ m => nomatch m), q⟩
/-! how many different ones -/
def dist (ns : List Int) : List Int := PyProof.Rows.firstMet (fun i => ns.getD i 0) ns.length
def LsV (K : PySem.W.Frag) (x : V) (H : Hp) (Q : VK) : Prop := ∃ (l : Addr) (ns : List Int), x = V.ref l ∧ SqL K H l (ns.map V.int) ∧ ns.length < 60 ∧ Q (.int (dist ns).length) H
def tLenSetG (K : PySem.W.Frag) (ta : TE) : TE := fun σ H Q => ta σ H fun x H1 => LsV K x H1 Q
theorem x_lenSetG (h : ta σ H fun x H1 => LsV K x H1 Q) : tLenSetG K ta σ H Q := h
theorem lsv {p : Addr} {ns : List Int} (h : SqL K H p (ns.map V.int)) (hl : ns.length < 60) (q : Q (.int (dist ns).length) H) : LsV K (.ref p) H Q := ⟨p, ns, rfl, h, hl, q⟩
theorem fold_dist : ∀ (l acc : List Int), (l.foldl PyProof.Rows.step_dedup acc).length ≤ acc.length + l.length ∧ ((l.foldl PyProof.Rows.step_dedup acc).length = acc.length + l.length → l.Nodup ∧ ∀ k ∈ l, k ∉ acc)
  | [], acc => ⟨Nat.le_refl _, fun _ => ⟨List.nodup_nil, fun k h => nomatch h⟩⟩
  | k :: l, acc => by
    have ih := fold_dist l (PyProof.Rows.step_dedup acc k)
    rw [List.foldl_cons]
    by_cases hk : acc.any (· == k) = true
    · have e : PyProof.Rows.step_dedup acc k = acc := by unfold PyProof.Rows.step_dedup; rw [if_pos hk]
      rw [e] at ih ⊢
      refine ⟨by rw [List.length_cons]; omega, fun h => ?_⟩
      rw [List.length_cons] at h
      omega
    · have e : PyProof.Rows.step_dedup acc k = acc ++ [k] := by unfold PyProof.Rows.step_dedup; rw [if_neg hk]
      rw [e] at ih ⊢
      rw [List.length_append, List.length_singleton] at ih
      refine ⟨by rw [List.length_cons]; omega, fun h => ?_⟩
      rw [List.length_cons] at h
      obtain ⟨h1, h2⟩ := ih.2 (by omega)
      have nk : k ∉ acc := fun hm => hk (List.any_eq_true.mpr ⟨k, hm, beq_self_eq_true k⟩)
      refine ⟨List.nodup_cons.mpr ⟨fun hm => h2 k hm (List.mem_append.mpr (.inr (List.mem_singleton.mpr rfl))), h1⟩, fun j hj => ?_⟩
      rcases List.mem_cons.mp hj with rfl | hj
      · exact nk
      · exact fun hm => h2 j hj (List.mem_append.mpr (.inl hm))
theorem dist_eq (ns : List Int) : (dist ns).length = ns.length ↔ ns.Nodup := by
  constructor
  · intro h
    have e : (List.range ns.length).map (fun i => ns.getD i 0) = ns := by
      refine List.ext_getElem (by simp) fun i h1 h2 => ?_
      simp at h1 ⊢
      rw [List.getElem?_eq_getElem h1]
      rfl
    have h2 : (ns.foldl PyProof.Rows.step_dedup []).length = ([] : List Int).length + ns.length := by
      unfold dist PyProof.Rows.firstMet at h
      rw [e] at h
      simpa using h
    exact ((fold_dist ns []).2 h2).1
  · intro h
    unfold dist
    rw [RZ.firstMet_nodup h ns.length (Nat.le_refl _), List.take_length]
end
section
open PySem.Spec PyProof.Rows
variable {X : Cx}
/-- len(set(a)): how many different ints -/
theorem pe_lenSetG {a : Expr} {ta : TE} {p p2 q pos : Pos} (calm : X.calm = true) (g1 : Gl X "len") (m1 : X.mg "len" = none) (g2 : Gl X "set") (m2 : X.mg "set" = none) (ea : PE X a ta)
    (sp : starEach [a] X.env = (false, eval a X.env) :: starEach [] X.env := by rfl) :
    PE X (.Call (.Name "len" p) [.Call (.Name "set" p2) [a] [] q] [] pos) (tLenSetG X.K ta) := by
  constructor
  intro pins s σ H Q inv need
  refine Call_ ?_
  apply ld_blt inv g1 m1 boot_len
  apply PyProof.Rows.callWith_builtin1
  · apply PyProof.Rows.args_cons
    · refine Call_ ?_
      apply ld_blt inv g2 m2 boot_set
      apply PyProof.Rows.callWith_type1
      · apply PyProof.Rows.args_cons
        · apply thn (ea.run pins s σ H _ inv need)
          rintro v s1 ⟨x, H1, inv1, rel, l, ns, rfl, sq, hl, go⟩
          apply PyProof.Rows.args_nil
          cases rel
          obtain ⟨its, vals, plain, _⟩ := inv1.list sq
          have size : its.toArray.size = ns.length := by
            rw [List.size_toArray, ← vals.length, List.length_map]
          refine call_set_list (inv1.ok.hd calm) plain.isList (ns := ns) (by simpa using vals.ints) (by unfold scanBound; omega) ?_
          intro h' tk made kept
          rw [size] at made
          obtain ⟨o, es, ep, tb, at_, exact_, data, _, _, _, fits, count⟩ := made
          apply PyProof.Rows.args_nil
          have inv2 : Inv X pins σ H1 { s1 with heap := h', toks := tk } := inv1.kept fun b u e => kept b u (Heap.lt_size e) e
          have few := PyProof.Rows.firstMet_length_le (fun i => ns.getD i 0) ns.length
          refine call_len_set at_ exact_ data fits (by rw [count]; omega) ⟨.int (dist ns).length, H1, inv2.tok _, ⟨_, by rw [count]; rfl⟩, go⟩
        · exact sp
      · exact sp
      · rfl
    · rfl
  · rfl
  · rfl
end
end LH
/-! readings for classes and dicts; the part of a heap that stands still -/
namespace LH
open PySem L2
/-! ### what stands still -/
/-- the heap without the places M that may change -/
def Fr (M : List Addr) (H : Hp) : Hp := fun b => if b ∈ M then none else H b
/-- all but the place a stays -/
def Kp (a : Addr) (H H' : Hp) : Prop := ∀ b o, H b = some o → b ≠ a → H' b = some o
/-- all but the places M stay -/
def Ks (M : List Addr) (H H' : Hp) : Prop := ∀ b o, H b = some o → b ∉ M → H' b = some o
theorem Kp.ks {a : Addr} {M : List Addr} {H H' : Hp} (k : Kp a H H') (m : a ∈ M) : Ks M H H' := fun b o h n => k b o h fun e => n (e ▸ m)
theorem Ks.of {M : List Addr} {H H' : Hp} (e : L2.Same H H') : Ks M H H' := fun b o h _ => e b o h
theorem Ks.trans {M : List Addr} {H H1 H2 : Hp} (a : Ks M H H1) (b : Ks M H1 H2) : Ks M H H2 := fun c o h n => b c o (a c o h n) n
theorem Ks.sub {M N : List Addr} {H H1 : Hp} (a : Ks M H H1) (s : ∀ b ∈ M, b ∈ N) : Ks N H H1 := fun c o h n => a c o h fun m => n (s c m)
theorem Kp.up {a : Addr} {H H' : Hp} : Kp a H (upd H a o) := fun b o h n => by rw [upd_ne n]; exact h
theorem Kp.upd {a : Addr} {H : Hp} {o : HO} : Kp a H (L2.upd H a o) := fun b u h n => by rw [upd_ne n]; exact h
theorem fr_of {M : List Addr} {H : Hp} {b : Addr} {o : HO} (h : H b = some o) (n : b ∉ M) : Fr M H b = some o := by
  unfold Fr
  rw [if_neg n]
  exact h
theorem fr_in {M : List Addr} {H : Hp} {b : Addr} (m : b ∈ M) : Fr M H b = none := by
  unfold Fr
  rw [if_pos m]
theorem fr_some {M : List Addr} {H : Hp} {b : Addr} {o : HO} (h : Fr M H b = some o) : H b = some o ∧ b ∉ M := by
  unfold Fr at h
  by_cases m : b ∈ M
  · rw [if_pos m] at h
    cases h
  · rw [if_neg m] at h
    exact ⟨h, m⟩
theorem fr_le {M : List Addr} {H : Hp} : L2.Same (Fr M H) H := fun _ _ h => (fr_some h).1
theorem Ks.fr {M : List Addr} {H H' : Hp} (k : Ks M H H') : L2.Same (Fr M H) (Fr M H') := fun b o h => let ⟨h1, n⟩ := fr_some h; fr_of (k b o h1 n) n
theorem Ks.frS {M N : List Addr} {H H' : Hp} (k : Ks M H H') (s : ∀ b ∈ M, b ∈ N) : L2.Same (Fr N H) (Fr N H') := (k.sub s).fr
theorem same_fr {M : List Addr} {H H' : Hp} (e : L2.Same H H') : L2.Same (Fr M H) (Fr M H') := (Ks.of e).fr
/-- a new place that may change from now on -/
theorem fr_new {M : List Addr} {H H' : Hp} {p : Addr} (f : H p = none) (e : L2.Same H H') : L2.Same (Fr M H) (Fr (p :: M) H') := fun b o h => by
  obtain ⟨h1, n⟩ := fr_some h
  exact fr_of (e _ _ h1) fun m => by
    rcases List.mem_cons.mp m with rfl | m
    · rw [f] at h1
      cases h1
    · exact n m
theorem not_in {M : List Addr} {H : Hp} {p : Addr} (f : H p = none) (l : ∀ b ∈ M, ∃ o, H b = some o) : p ∉ M := fun m => by
  obtain ⟨o, h⟩ := l p m
  rw [f] at h
  cases h
section
variable {K : PySem.W.Frag} {σ : L2.St} {H : Hp} {Q : VK} {D : Ends} {te tl ta tb td ty tv tx : TE} {tr : TA} {t : TS} {g : TG} {x y z v : V} {f m : Str} {C dx a : Addr} {fs : List (Str × V)} {sp : Sp} {dvs : List V} {E : XK}
/-! ### fields -/
def FldV (K : PySem.W.Frag) (f : Str) (x : V) (H1 : Hp) (Q : VK) : Prop := ∃ a C dx fs v, x = .ref a ∧ H1 a = some (.ins C dx fs) ∧ Cls K C ∧ NoAttr K C f ∧ fs.lookup f = some v ∧ Q v H1
theorem x_fld (h : ta σ H fun x H1 => FldV K f x H1 Q) : tFld K ta f σ H Q := h
theorem fldv (h : H a = some (.ins C dx fs)) (c : Cls K C) (n : NoAttr K C f) (e : fs.lookup f = some v) (q : Q v H) : FldV K f (.ref a) H Q := ⟨a, C, dx, fs, v, rfl, h, c, n, e, q⟩
def SFldV (K : PySem.W.Frag) (f : Str) (y : V) (D : Ends) (σ : L2.St) (x : V) (H2 : Hp) : Prop := ∃ a C dx fs, x = .ref a ∧ H2 a = some (.ins C dx fs) ∧ Cls K C ∧ NoAttr K C f ∧ fs.length < 1000 ∧ D.nx σ (upd H2 a (.ins C dx (putF f y fs)))
theorem x_sfld (h : tv σ H fun y H1 => ta σ H1 fun x H2 => SFldV K f y D σ x H2) : sFld K ta tv f D σ H := h
theorem sfldv (h : H a = some (.ins C dx fs)) (c : Cls K C) (n : NoAttr K C f) (l : fs.length < 1000) (k : ∀ H', Kp a H H' → H' a = some (.ins C dx (putF f y fs)) → D.nx σ H') : SFldV K f y D σ (.ref a) H :=
  ⟨a, C, dx, fs, rfl, h, c, n, l, k _ Kp.upd upd_same⟩
def AFldV (K : PySem.W.Frag) (f : Str) (tv : TE) (rd : V → V → Hp → VK → Prop) (D : Ends) (σ : L2.St) (x : V) (H1 : Hp) : Prop := ∃ a C dx fs v, x = .ref a ∧ H1 a = some (.ins C dx fs) ∧ Cls K C ∧ NoAttr K C f ∧ fs.lookup f = some v ∧
  tv σ H1 fun y H2 => rd v y H2 fun z H3 => ∃ dx' fs', H3 a = some (.ins C dx' fs') ∧ fs'.length < 1000 ∧ D.nx σ (upd H3 a (.ins C dx' (putF f z fs')))
theorem x_afld {rd : V → V → Hp → VK → Prop} (h : ta σ H fun x H1 => AFldV K f tv rd D σ x H1) : sFldAug K ta tv rd f D σ H := h
/-- e.f += i, ints -/
theorem afldI {i j : Int} {rd : V → V → Hp → VK → Prop} (h : H a = some (.ins C dx fs)) (c : Cls K C) (n : NoAttr K C f) (e : fs.lookup f = some (.int i)) (l : fs.length < 1000)
    (hr : ∀ Q : VK, Q (.int (i + j)) H → rd (.int i) (.int j) H Q) (hv : ∀ Q : VK, Q (.int j) H → tv σ H Q)
    (k : ∀ H', Kp a H H' → H' a = some (.ins C dx (putF f (.int (i + j)) fs)) → D.nx σ H') : AFldV K f tv rd D σ (.ref a) H :=
  ⟨a, C, dx, fs, _, rfl, h, c, n, e, hv _ (hr _ ⟨dx, fs, h, l, k _ Kp.upd upd_same⟩)⟩
/-! ### methods, new instances -/
def MethV (C : Addr) (m : Str) (sp : Sp) (dvs : List V) (E : XK) (tr : TA) (σ : L2.St) (x : V) (H1 : Hp) (Q : VK) : Prop := ∃ a dx fs, x = .ref a ∧ H1 a = some (.ins C dx fs) ∧ fs.lookup m = none ∧ tr σ H1 fun vs H2 => sp (x :: (vs ++ dvs)) H2 Q E
theorem x_meth (h : ta σ H fun x H1 => MethV C m sp dvs E tr σ x H1 Q) : tMeth C m sp dvs E ta tr σ H Q := h
theorem methv (h : H a = some (.ins C dx fs)) (l : fs.lookup m = none) (k : tr σ H fun vs H2 => sp (.ref a :: (vs ++ dvs)) H2 Q E) : MethV C m sp dvs E tr σ (.ref a) H Q := ⟨a, dx, fs, rfl, h, l, k⟩
def MakeV (C : Addr) (sp : Sp) (dvs : List V) (E : XK) (vs : List V) (H1 : Hp) (Q : VK) : Prop := ∀ x dx, H1 x = none → H1 dx = none → dx ≠ x → sp (.ref x :: (vs ++ dvs)) (upd (upd H1 dx (.own x)) x (.ins C dx [])) (fun v H2 => v = .non ∧ Q (.ref x) H2) E
theorem x_make (h : tr σ H fun vs H1 => MakeV C sp dvs E vs H1 Q) : tMake C sp dvs E tr σ H Q := h
theorem makev {vs : List V} (k : ∀ x dx H2, H x = none → H dx = none → dx ≠ x → L2.Same H H2 → H2 x = some (.ins C dx []) → sp (.ref x :: (vs ++ dvs)) H2 (fun v H3 => v = .non ∧ Q (.ref x) H3) E) : MakeV C sp dvs E vs H Q := fun x dx f1 f2 n => by
  refine k x dx _ f1 f2 n (fun b o h => ?_) upd_same
  rw [upd_ne (ne_of_none h f1), upd_ne (ne_of_none h f2)]
  exact h
/-! ### dicts -/
def InV (y x : V) (H2 : Hp) (Q : VK) : Prop := ∃ a o, x = .ref a ∧ DGet H2 a y o ∧ Q (.bl o.isSome) H2
def NiV (y x : V) (H2 : Hp) (Q : VK) : Prop := ∃ a o, x = .ref a ∧ DGet H2 a y o ∧ Q (.bl (!o.isSome)) H2
theorem x_din (h : ty σ H fun y H1 => td σ H1 fun x H2 => InV y x H2 Q) : tDIn ty td σ H Q := h
theorem x_dni (h : ty σ H fun y H1 => td σ H1 fun x H2 => NiV y x H2 Q) : tDNotIn ty td σ H Q := h
theorem getI {kvs : List (Key × V)} {i : Int} (h : H a = some (.dK kvs)) : DGet H a (.int i) (valV kvs (Sum.inl i)) := DGet.k (k := Sum.inl i) h
theorem getS {kvs : List (Key × V)} {s : Str} (h : H a = some (.dK kvs)) : DGet H a (.str s) (valV kvs (Sum.inr s)) := DGet.k (k := Sum.inr s) h
theorem getT {kvs : List (List Key × V)} {k : List Key} {b : Addr} (h : H a = some (.dT kvs)) (e : H b = some (.tup (k.map kV))) : DGet H a (.ref b) (valV kvs k) := DGet.t h e
theorem inv {o : Option V} (h : DGet H a y o) (q : Q (.bl o.isSome) H) : InV y (.ref a) H Q := ⟨a, o, rfl, h, q⟩
theorem niv {o : Option V} (h : DGet H a y o) (q : Q (.bl (!o.isSome)) H) : NiV y (.ref a) H Q := ⟨a, o, rfl, h, q⟩
def GetV (x y : V) (H2 : Hp) (Q : VK) : Prop := ∃ a v, x = .ref a ∧ DGet H2 a y (some v) ∧ Q v H2
theorem x_dget (h : td σ H fun x H1 => ty σ H1 fun y H2 => GetV x y H2 Q) : tDGet td ty σ H Q := h
theorem getv {o : Option V} (h : DGet H a y o) (e : o = some v) (q : Q v H) : GetV (.ref a) y H Q := ⟨a, v, rfl, e ▸ h, q⟩
def DpV (v x y : V) (D : Ends) (σ : L2.St) (H3 : Hp) : Prop := ∃ a H4, x = .ref a ∧ DPut H3 a y v H4 ∧ D.nx σ H4
theorem x_dput (h : tv σ H fun v H1 => td σ H1 fun x H2 => ty σ H2 fun y H3 => DpV v x y D σ H3) : sDPut td ty tv D σ H := h
theorem putvI {kvs : List (Key × V)} {i : Int} (h : H a = some (.dK kvs)) (l : kvs.length ≤ 100000) (k : ∀ H', Kp a H H' → H' a = some (.dK (putK kvs (Sum.inl i) v)) → D.nx σ H') : DpV v (.ref a) (.int i) D σ H :=
  ⟨a, _, rfl, DPut.k (k := Sum.inl i) h (sz' l), k _ Kp.upd upd_same⟩
theorem putvS {kvs : List (Key × V)} {s : Str} (h : H a = some (.dK kvs)) (l : kvs.length ≤ 100000) (k : ∀ H', Kp a H H' → H' a = some (.dK (putK kvs (Sum.inr s) v)) → D.nx σ H') : DpV v (.ref a) (.str s) D σ H :=
  ⟨a, _, rfl, DPut.k (k := Sum.inr s) h (sz' l), k _ Kp.upd upd_same⟩
theorem putvT {kvs : List (List Key × V)} {ks : List Key} {b : Addr} (h : H a = some (.dT kvs)) (e : H b = some (.tup (ks.map kV))) (l : kvs.length ≤ 100000) (k : ∀ H', Kp a H H' → H' a = some (.dT (putK kvs ks v)) → D.nx σ H') : DpV v (.ref a) (.ref b) D σ H :=
  ⟨a, _, rfl, DPut.t h e (sz' l), k _ Kp.upd upd_same⟩
def Get2V (ty tx : TE) (σ : L2.St) (x : V) (H1 : Hp) (Q : VK) : Prop := ∃ a, x = .ref a ∧ IsD H1 a ∧ ty σ H1 fun y H2 => tx σ H2 fun z H3 => ∃ o, DGet H3 a y o ∧ Q (o.getD z) H3
def Get2W (a : Addr) (y z : V) (H3 : Hp) (Q : VK) : Prop := ∃ o, DGet H3 a y o ∧ Q (o.getD z) H3
theorem x_dget2 (h : td σ H fun x H1 => Get2V ty tx σ x H1 Q) : tDGet2 td ty tx σ H Q := h
theorem get2v (h : IsD H a) (k : ty σ H fun y H2 => tx σ H2 fun z H3 => Get2W a y z H3 Q) : Get2V ty tx σ (.ref a) H Q := ⟨a, rfl, h, k⟩
theorem get2w {o : Option V} (h : DGet H a y o) (q : Q (o.getD z) H) : Get2W a y z H Q := ⟨o, h, q⟩
theorem isdK {kvs : List (Key × V)} (h : H a = some (.dK kvs)) : IsD H a := .inl ⟨kvs, .inl h⟩
theorem isdT {kvs : List (List Key × V)} (h : H a = some (.dT kvs)) : IsD H a := .inr ⟨kvs, .inl h⟩
def PopV (ty : TE) (σ : L2.St) (x : V) (H1 : Hp) (Q : VK) : Prop := ∃ a, x = .ref a ∧ IsD H1 a ∧ ty σ H1 fun y H2 => ∃ kvs k v, H2 a = some (.dK kvs) ∧ y = kV k ∧ valV kvs k = some v ∧ Q v (upd H2 a (.dK (dropK kvs k)))
def PopW (a : Addr) (y : V) (H2 : Hp) (Q : VK) : Prop := ∃ kvs k v, H2 a = some (.dK kvs) ∧ y = kV k ∧ valV kvs k = some v ∧ Q v (upd H2 a (.dK (dropK kvs k)))
theorem x_dpop1 (h : td σ H fun x H1 => PopV ty σ x H1 Q) : tDPop1 td ty σ H Q := h
theorem popv (h : IsD H a) (k : ty σ H fun y H2 => PopW a y H2 Q) : PopV ty σ (.ref a) H Q := ⟨a, rfl, h, k⟩
theorem popwI {kvs : List (Key × V)} {i : Int} (h : H a = some (.dK kvs)) (e : valV kvs (Sum.inl i) = some v) (k : ∀ H', Kp a H H' → H' a = some (.dK (dropK kvs (Sum.inl i))) → Q v H') : PopW a (.int i) H Q :=
  ⟨kvs, Sum.inl i, v, h, rfl, e, k _ Kp.upd upd_same⟩
def LiV (x : V) (H1 : Hp) (Q : VK) : Prop := LiI.rItemsL x H1 Q
theorem x_litems (h : te σ H fun x H1 => LiV x H1 Q) : LiI.tListItems te σ H Q := h
theorem liv {kvs : List (Key × V)} (h : H a = some (.dK kvs))
    (k : ∀ p H' (ts : List Addr), L2.Same H H' → H p = none → (∀ t ∈ ts, H t = none) → H' p = some (.lst (ts.map V.ref)) → Paired (fun (t : Addr) (q : Key × V) => H' t = some (.tup [kV q.1, q.2])) ts kvs → Q (.ref p) H') : LiV (.ref a) H Q :=
  ⟨a, kvs, rfl, h, fun H' p ts e f ft _ g pr => k p H' ts e f ft g pr⟩
/-! ### displays, lists -/
theorem x_dnewT (k : ∀ p H2, H p = none → L2.Same H H2 → H2 p = some (.dT []) → Q (.ref p) H2) : tDNewT σ H Q := fun p hp => k p _ hp (LH.Same.new hp) upd_same
theorem x_clear {p : Addr} {xs : List V} (h : H p = some (.lst xs)) (q : ∀ H', Kp p H H' → H' p = some (.lst []) → Q .non H') : rClear (.ref p) [] H Q :=
  ⟨p, xs, rfl, rfl, h, q _ Kp.upd upd_same⟩
theorem x_appK {p : Addr} {xs : List V} (h : H p = some (.lst xs)) (hl : xs.length ≤ 100000) (q : ∀ H', Kp p H H' → H' p = some (.lst (xs ++ [y])) → Q .non H') : rAppend (.ref p) [y] H Q :=
  ⟨p, xs, y, rfl, rfl, h, sz' hl, q _ Kp.upd upd_same⟩
def SlLV (K : PySem.W.Frag) (x : V) (lo hi : Option Int) (H : Hp) (Q : VK) : Prop := rSlL K x lo hi H Q
end
end LH
namespace LH
open PySem L2 PySem.Spec PyProof.Rows
/-! ### methods and new instances within a try: what is raised is wished for at the slots -/
section
variable {X : Cx} {CX : CXT} {k : Nat} {f C : Addr} {fd : FuncData} {ps : List Str} {sp : Sp} {E : L2.St → XK} {x m : Str} {p pos apos : Pos} {e o : Expr} {es : List Expr} {to : TE} {tr : TA}
def tMethSl (C : Addr) (m : Str) (sp : Sp) (E : L2.St → XK) (to : TE) (tr : TA) : TE := fun σ H Q => to σ H fun x H1 => MethV C m sp [] (E σ) tr σ x H1 Q
theorem x_methSl {σ : L2.St} {H : Hp} {Q : VK} (h : to σ H fun x H1 => MethV C m sp [] (E σ) tr σ x H1 Q) : tMethSl C m sp E to tr σ H Q := h
theorem pe_methSl {pl : Sem Bool} (ho : PE X o to) (c : Cls X.K C) (hm : Meth X.K C m f) (G : FnOk X.prog X.w X.K X.mg X.base CX k f fd ps sp) (room : Room k X.A) (hb : Binds X.K fd ps []) (hx : ∀ σ, PassesAt CX X σ (E σ)) (ha : PA X (e :: es) tr)
    (h1 : starEach (e :: es) X.env = (false, eval e X.env) :: starEach es X.env := by rfl) (h2 : (backTo pos (starEach es X.env)).any (·.1) = false := by rfl)
    (h3 : eval (.Call (.Attribute o m apos) (e :: es) [] pos) X.env = (do
      let obj ← eval o X.env
      standAt apos.atName
      let (fn, lead) ← holding [obj] (getMethod obj m pl)
      callWith pos fn lead (backTo pos (starEach (e :: es) X.env)) (backToKw pos (keywordEach [] X.env))) := by rfl) :
    PE X (.Call (.Attribute o m apos) (e :: es) [] pos) (tMethSl C m sp E to tr) := by
  constructor
  intro pins s σ H Q I need
  apply PySem.W.methodCall_KW (pl := pl) _ h3
  apply thn (ho.run pins s σ H _ I need)
  rintro u s1 ⟨x, H1, I1, rx, a, dx, fs, rfl, ea, l, q⟩
  have eu : u = Value.ref a := rx
  rw [eu]
  apply getmeth_ok I1 ea c hm l
  refine PySem.W.callWith_K (first := [.ref a]) (h₀ := X.base) I.ok.mod.kin hm.kp (thn (ha.run pos pins s1 σ H1 _ I1 q) ?_) h1 h2
  rintro us s2 ⟨vs, H2, I2, r, q2⟩
  rw [List.append_nil] at q2
  exact ⟨I2.kIn, run_fnS G room hb (hx σ) I2 (.cons (show L2.RelV (V.ref a) (Value.ref a) from rfl) r) q2⟩
def tMakeSl (C : Addr) (sp : Sp) (E : L2.St → XK) (tr : TA) : TE := fun σ H Q => tr σ H fun vs H1 => MakeV C sp [] (E σ) vs H1 Q
theorem x_makeSl {σ : L2.St} {H : Hp} {Q : VK} (h : tr σ H fun vs H1 => MakeV C sp [] (E σ) vs H1 Q) : tMakeSl C sp E tr σ H Q := h
theorem run_makeSl {pins : List (Addr × Obj)} {σ : L2.St} {H : Hp} {s : Shared} {Q : VK} {us : List Value} {vs : List V} (M : Mk X.K C f) (G : FnOk X.prog X.w X.K X.mg X.base CX k f fd ps sp) (room : Room (k + 1) X.A) (hb : Binds X.K fd ps [])
    (hx : PassesAt CX X σ (E σ)) (I : Inv X pins σ H s) (r : Vals vs us) (need : MakeV C sp [] (E σ) vs H Q) : wpAny (model X.prog X.w) X.A (call (.ref C) us) (EP X pins σ Q) X.xe s := by
  have wish := need (s.heap.objs.size + 1) s.heap.objs.size (I.hok.fresh (Nat.le_succ _)) (I.hok.fresh (Nat.le_refl _)) (Nat.ne_of_lt (Nat.lt_succ_self _))
  rw [List.append_nil] at wish
  have made := Inv.made (C := C) I
  have all : Vals (V.ref (s.heap.objs.size + 1) :: vs) (Value.ref (s.heap.objs.size + 1) :: us) := .cons rfl r
  have same : (Value.ref (s.heap.objs.size + 1) :: us).length = ps.length := by
    rw [← all.length]
    exact G.len _ _ _ _ wish
  have b := hb _ (Value.ref (s.heap.objs.size + 1) :: us) made.kIn (by rw [List.append_nil]; exact same)
  rw [List.append_nil] at b
  apply wpAny_call
  apply make_map (f := f) I.kIn M.makes M.init (beq_iff_eq.mp M.fn)
  apply codeAny_mono (G.run _ X.stack _ _ ⟨Value.ref (s.heap.objs.size + 1) :: us, []⟩ (Value.ref (s.heap.objs.size + 1) :: us) _ _ (E σ) (room.make C us []) (made.env0.make C us []) b all wish)
  intro fl s' got
  cases fl with
  | error e => exact hx pins _ _ e s' made got
  | ok fl =>
    cases fl with
    | ret u =>
      obtain ⟨v, H', I3, rv, rfl, q3⟩ := made.after got
      exact ⟨rv, V.ref (s.heap.objs.size + 1), H', I3, rfl, q3⟩
    | next => exact False.elim got
    | brk => exact False.elim got
    | cont => exact False.elim got
theorem pe_makeSl (M : Mk X.K C f) (G : FnOk X.prog X.w X.K X.mg X.base CX k f fd ps sp) (room : Room (k + 1) X.A) (hg : Gl X x) (hm : X.mg x = some (.ref C)) (hb : Binds X.K fd ps []) (hx : ∀ σ, PassesAt CX X σ (E σ))
    (ha : PA X (e :: es) tr) (h0 : (x == ("__debug__" : Str)) = false := by decide) (h1 : starEach (e :: es) X.env = (false, eval e X.env) :: starEach es X.env := by rfl) (h2 : (backTo pos (starEach es X.env)).any (·.1) = false := by rfl) :
    PE X (.Call (.Name x p) (e :: es) [] pos) (tMakeSl C sp E tr) := by
  constructor
  intro pins s σ H Q I need
  apply wpAny_Call_Name_kw (ld_glob I hg hm _ h0)
  refine PySem.W.callWith_K (h₀ := X.base) I.ok.mod.kin M.kp (thn (ha.run pos pins s σ H _ I need) ?_) h1 h2
  rintro us s1 ⟨vs, H1, I1, r, q⟩
  exact ⟨I1.kIn, run_makeSl M G room hb (hx σ) I1 r q⟩
end
end LH
namespace LH
open PySem L2
section
variable {K : PySem.W.Frag} {σ : L2.St} {H : Hp} {Q : VK} {te : TE} {t : TT}
theorem x_slL {p : Addr} {xs : List V} {lo hi : Option Int} (h : SqL K H p xs) (k : ∀ p' H2, H p' = none → L2.Same H H2 → H2 p' = some (.lst (cutV xs lo hi)) → Q (.ref p') H2) : rSlL K (.ref p) lo hi H Q :=
  ⟨p, xs, rfl, h, fun q hq => k q _ hq (LH.Same.new hq) upd_same⟩
theorem Paired.imp {α β : Type} {F G : α → β → Prop} (h : ∀ a b, F a b → G a b) : ∀ {xs : List α} {ys : List β}, Paired F xs ys → Paired G xs ys
  | _, _, .nil => .nil
  | _, _, .cons a r => .cons (h _ _ a) (Paired.imp h r)
theorem Paired.snoc {α β : Type} {F : α → β → Prop} {a : α} {b : β} : ∀ {xs : List α} {ys : List β}, Paired F xs ys → F a b → Paired F (xs ++ [a]) (ys ++ [b])
  | _, _, .nil, h => .cons h .nil
  | _, _, .cons c r, h => .cons c (Paired.snoc r h)
theorem Paired.len {α β : Type} {F : α → β → Prop} : ∀ {xs : List α} {ys : List β}, Paired F xs ys → xs.length = ys.length
  | _, _, .nil => rfl
  | _, _, .cons _ r => congrArg (· + 1) (Paired.len r)
theorem range_filter_succ (f : Nat → Bool) (i : Nat) : (List.range (i + 1)).filter f = if f i = true then (List.range i).filter f ++ [i] else (List.range i).filter f := by
  rw [List.range_succ, List.filter_append]
  cases h : f i <;> simp [List.filter, h]
theorem fr_same {M : List Addr} {H H' : Hp} {p : Addr} (f : H p = none) (e : L2.Same H H') : L2.Same H (Fr [p] H') := fun b o h => fr_of (e _ _ h) fun m => by
  rw [List.mem_singleton.mp m, f] at h
  cases h
theorem same_mut {H H1 H' : Hp} {D : Addr} (e : L2.Same H (Fr [D] H1)) (k : Kp D H1 H') : L2.Same H (Fr [D] H') := e.trans (k.ks (List.mem_singleton.mpr rfl)).fr
/-- a comprehension over a walk, each item told by R, which speaks of what stands still beside the new list -/
theorem lc_JR {J : It} {n : Nat} {Y : Nat → Hp → V → Hp → Prop} (w : Walk J n (fun _ => True) Y) {xs : List V} (hn : xs.length = n) (hY : ∀ i H x H', Y i H x H' → H' = H ∧ xs[i]? = some x) {j : Nat} {vs : List Nat} (hz : n ≤ 100000)
    (f : Nat → Bool) (R : Nat → V → Hp → Prop) (st : ∀ i y H1 H2, L2.Same H1 H2 → R i y H1 → R i y H2) (hw : ∀ x, wipe ((wipe σ vs).set j (some x)) vs = wipe σ vs)
    (ht : ∀ i x, xs[i]? = some x → ∀ H1, L2.Same H H1 → ∀ Q : Bool → Hp → Prop, (∀ H2, L2.Same H1 H2 → Q (f i) H2) → t ((wipe σ vs).set j (some x)) H1 Q)
    (he : ∀ i x, xs[i]? = some x → f i = true → ∀ D H1, L2.Same H (Fr [D] H1) → L2.Same H H1 → (∃ l, H1 D = some (.lst l)) → ∀ Q : VK, (∀ y H2, L2.Same H1 H2 → R i y (Fr [D] H2) → Q y H2) → te ((wipe σ vs).set j (some x)) H1 Q)
    (k : ∀ D H2 ys, H D = none → L2.Same H H2 → H2 D = some (.lst ys) → Paired (fun i y => R i y (Fr [D] H2)) ((List.range n).filter f) ys → Q (.ref D) H2) : LcJ J (gName j) t te vs σ H Q := by
  intro D hD
  refine lc_it w (fun i H' => L2.Same H (Fr [D] H') ∧ ∃ ys, H' D = some (.lst ys) ∧ ys.length ≤ i ∧ Paired (fun i y => R i y (Fr [D] H')) ((List.range i).filter f) ys)
    ⟨fr_same (M := []) hD (LH.Same.new hD), [], upd_same, Nat.le_refl _, .nil⟩ (fun _ _ _ _ => trivial) ?_ ?_
  · rintro i x H' H'' hi ⟨e0, ys, gD, ly, hy⟩ y
    obtain ⟨rfl, hx⟩ := hY _ _ _ _ y
    have e1 : L2.Same H H'' := e0.trans fr_le
    refine ⟨hw x, ht i x hx _ e1 _ fun H2 e2 => ?_⟩
    cases hf : f i with
    | true =>
      rw [if_pos rfl]
      refine he i x hx hf D H2 (e0.trans (same_fr e2)) (e1.trans e2) ⟨_, e2 _ _ gD⟩ _ fun y H3 e3 r3 => ⟨ys, e3 _ _ (e2 _ _ gD), sz' (by omega), ?_, ys ++ [y], upd_same, by rw [List.length_append]; exact Nat.add_le_add_right ly 1, ?_⟩
      · exact same_mut (e0.trans (same_fr (e2.trans e3))) Kp.upd
      · rw [range_filter_succ, if_pos hf]
        have s3 : L2.Same (Fr [D] H3) (Fr [D] (upd H3 D (.lst (ys ++ [y])))) := (Kp.ks (a := D) Kp.upd (List.mem_singleton.mpr rfl)).fr
        exact Paired.snoc (Paired.imp (fun a b h => st a b _ _ ((same_fr (e2.trans e3)).trans s3) h) hy) (st _ _ _ _ s3 r3)
    | false =>
      rw [if_neg Bool.false_ne_true]
      refine ⟨e0.trans (same_fr e2), ys, e2 _ _ gD, Nat.le_succ_of_le ly, ?_⟩
      rw [range_filter_succ, if_neg (by rw [hf]; exact Bool.false_ne_true)]
      exact Paired.imp (fun a b h => st a b _ _ (same_fr e2) h) hy
  · rintro H' ⟨e0, ys, gD, ly, hy⟩
    exact k D H' ys hD (e0.trans fr_le) gD hy
/-- the same over a range -/
theorem lc_RR {lo : Int} {n : Nat} {j : Nat} {vs : List Nat} (hz : n ≤ 100000)
    (f : Nat → Bool) (R : Nat → V → Hp → Prop) (st : ∀ i y H1 H2, L2.Same H1 H2 → R i y H1 → R i y H2) (hw : ∀ x, wipe ((wipe σ vs).set j (some x)) vs = wipe σ vs)
    (ht : ∀ i, i < n → ∀ H1, L2.Same H H1 → ∀ Q : Bool → Hp → Prop, (∀ H2, L2.Same H1 H2 → Q (f i) H2) → t ((wipe σ vs).set j (some (.int (lo + (i : Nat))))) H1 Q)
    (he : ∀ i, i < n → f i = true → ∀ D H1, L2.Same H (Fr [D] H1) → L2.Same H H1 → (∃ l, H1 D = some (.lst l)) → ∀ Q : VK, (∀ y H2, L2.Same H1 H2 → R i y (Fr [D] H2) → Q y H2) → te ((wipe σ vs).set j (some (.int (lo + (i : Nat))))) H1 Q)
    (k : ∀ D H2 ys, H D = none → L2.Same H H2 → H2 D = some (.lst ys) → Paired (fun i y => R i y (Fr [D] H2)) ((List.range n).filter f) ys → Q (.ref D) H2) : LcJ (Itr lo n) (gName j) t te vs σ H Q := by
  have hx : ∀ i x, (intsV lo n)[i]? = some x → i < n ∧ x = .int (lo + (i : Nat)) := fun i x h => by
    unfold intsV at h
    rw [List.getElem?_map] at h
    by_cases hi : i < n
    · rw [List.getElem?_range hi] at h
      injection h with h
      exact ⟨hi, h.symm⟩
    · rw [List.getElem?_eq_none (by rw [List.length_range]; omega)] at h
      cases h
  refine lc_JR (xs := intsV lo n) walk_rg (by unfold intsV; rw [List.length_map, List.length_range]) (fun i H x H' ⟨e, hx, hi⟩ => ⟨e, by unfold intsV; rw [List.getElem?_map, List.getElem?_range hi, hx]; rfl⟩) hz f R st hw ?_ ?_ k
  · intro i x h
    obtain ⟨hi, rfl⟩ := hx i x h
    exact ht i hi
  · intro i x h
    obtain ⟨hi, rfl⟩ := hx i x h
    exact he i hi
/-- the same over a list -/
theorem lc_LR {a : Addr} {xs : List V} {j : Nat} {vs : List Nat} (hx : SqL K H a xs) (hz : xs.length ≤ 100000)
    (f : Nat → Bool) (R : Nat → V → Hp → Prop) (st : ∀ i y H1 H2, L2.Same H1 H2 → R i y H1 → R i y H2) (hw : ∀ x, wipe ((wipe σ vs).set j (some x)) vs = wipe σ vs)
    (ht : ∀ i x, xs[i]? = some x → ∀ H1, L2.Same H H1 → ∀ Q : Bool → Hp → Prop, (∀ H2, L2.Same H1 H2 → Q (f i) H2) → t ((wipe σ vs).set j (some x)) H1 Q)
    (he : ∀ i x, xs[i]? = some x → f i = true → ∀ D H1, L2.Same H (Fr [D] H1) → L2.Same H H1 → (∃ l, H1 D = some (.lst l)) → ∀ Q : VK, (∀ y H2, L2.Same H1 H2 → R i y (Fr [D] H2) → Q y H2) → te ((wipe σ vs).set j (some x)) H1 Q)
    (k : ∀ D H2 ys, H D = none → L2.Same H H2 → H2 D = some (.lst ys) → Paired (fun i y => R i y (Fr [D] H2)) ((List.range xs.length).filter f) ys → Q (.ref D) H2) : LcV K (gName j) t te vs σ (.ref a) H Q := by
  refine ⟨a, rfl, ⟨xs, hx⟩, fun D hD => ?_⟩
  refine lc_list (xs := xs) (fun i H' => L2.Same H (Fr [D] H') ∧ ∃ ys, H' D = some (.lst ys) ∧ ys.length ≤ i ∧ Paired (fun i y => R i y (Fr [D] H')) ((List.range i).filter f) ys)
    ⟨fr_same (M := []) hD (LH.Same.new hD), [], upd_same, Nat.le_refl _, .nil⟩ (fun i H' _ p => L2.Same.seq (p.1.trans fr_le) hx) ?_ ?_
  · rintro i x H' hi ⟨e0, ys, gD, ly, hy⟩
    have hlt : i < xs.length := (List.getElem?_eq_some_iff.mp hi).1
    have e1 : L2.Same H H' := e0.trans fr_le
    refine ⟨hw x, ht i x hi _ e1 _ fun H2 e2 => ?_⟩
    cases hf : f i with
    | true =>
      rw [if_pos rfl]
      refine he i x hi hf D H2 (e0.trans (same_fr e2)) (e1.trans e2) ⟨_, e2 _ _ gD⟩ _ fun y H3 e3 r3 => ⟨ys, e3 _ _ (e2 _ _ gD), sz' (by omega), ?_, ys ++ [y], upd_same, by rw [List.length_append]; exact Nat.add_le_add_right ly 1, ?_⟩
      · exact same_mut (e0.trans (same_fr (e2.trans e3))) Kp.upd
      · rw [range_filter_succ, if_pos hf]
        have s3 : L2.Same (Fr [D] H3) (Fr [D] (upd H3 D (.lst (ys ++ [y])))) := (Kp.ks (a := D) Kp.upd (List.mem_singleton.mpr rfl)).fr
        exact Paired.snoc (Paired.imp (fun a b h => st a b _ _ ((same_fr (e2.trans e3)).trans s3) h) hy) (st _ _ _ _ s3 r3)
    | false =>
      rw [if_neg Bool.false_ne_true]
      refine ⟨e0.trans (same_fr e2), ys, e2 _ _ gD, Nat.le_succ_of_le ly, ?_⟩
      rw [range_filter_succ, if_neg (by rw [hf]; exact Bool.false_ne_true)]
      exact Paired.imp (fun a b h => st a b _ _ (same_fr e2) h) hy
  · rintro H' ⟨e0, ys, gD, ly, hy⟩
    exact k D H' ys hD (e0.trans fr_le) gD hy
end
end LH
namespace LH
open PySem L2
/-- ways that meet again behind an expression -/
theorem cut {te : TE} {σ : L2.St} {H : Hp} {Q0 : VK} (X : V → Hp → Prop) (h : ∀ Q : VK, (∀ y H', X y H' → Q y H') → te σ H Q) (k : ∀ y H', X y H' → Q0 y H') : te σ H Q0 := h Q0 k
/-- .. behind a statement -/
theorem cutS {t : TS} {D : Ends} {σ : L2.St} {H : Hp} (X : L2.St → Hp → Prop) (h : ∀ N : L2.St → Hp → Prop, (∀ σ' H', X σ' H' → N σ' H') → t { D with nx := N } σ H) (k : ∀ σ' H', X σ' H' → D.nx σ' H') : t D σ H := h D.nx k
/-- .. behind a test -/
theorem cutT {t : TT} {σ : L2.St} {H : Hp} {Q0 : Bool → Hp → Prop} (X : Bool → Hp → Prop) (h : ∀ Q : Bool → Hp → Prop, (∀ y H', X y H' → Q y H') → t σ H Q) (k : ∀ y H', X y H' → Q0 y H') : t σ H Q0 := h Q0 k
end LH
/-! more rules: setdefault with tuple keys, list(d.values()) -/
namespace LH
open PySem PySem.Spec PyProof.Rows L2
section
variable {X : Cx} {o e f : Expr} {td ty tx : TE} {apos cpos : Pos}
def SdV (ty tx : TE) (σ : L2.St) (x : V) (H1 : Hp) (Q : VK) : Prop := ∃ a, x = .ref a ∧ IsD H1 a ∧ ty σ H1 fun y H2 => tx σ H2 fun z H3 => ∃ (kvs : List (List Key × V)) (k : List Key) (b : Addr), H3 a = some (.dT kvs) ∧ y = .ref b ∧ H3 b = some (.tup (k.map kV)) ∧ kvs.length < sizeLine ∧
  (∀ v, valV kvs k = some v → Q v H3) ∧ (valV kvs k = none → Q z (upd H3 a (.dT (putK kvs k z))))
def tDSetT (td ty tx : TE) : TE := fun σ H Q => td σ H fun x H1 => SdV ty tx σ x H1 Q
/-- d.setdefault(y, z), the keys tuples -/
theorem pe_dsetdT (hu : X.A.units + 1 < cLine) (ho : PE X o td) (he : PE X e ty) (hf : PE X f tx) (m : M2 X o "setdefault" apos e f cpos) : PE X (.Call (.Attribute o "setdefault" apos) [e, f] [] cpos) (tDSetT td ty tx) := by
  constructor
  intro pins s σ H Q I need
  apply wpAny_Call_method m.base m.few m.line PySem.F.plainAttrs_dict PySem.F.slot_dict_setdefault PySem.F.type_dict_setdefault
  apply thn (ho.run pins s σ H _ I need)
  rintro u s1 ⟨x, H1, I1, rx, a, rfl, isd, q1⟩
  have eu : u = Value.ref a := rx
  rw [eu]
  obtain ⟨t1, t2, _⟩ := isD_at I1 isd
  refine ⟨t1, t2, ?_⟩
  rw [m.trees]
  apply Calls.callWith_builtin rfl
  apply Calls.evalArgs_plain
  apply Calls.spliced_cons
  apply thn (he.run pins s1 σ H1 _ I1 q1)
  rintro kv s2 ⟨y, H2, I2, ry, q2⟩
  apply Calls.spliced_cons
  apply thn (hf.run pins s2 σ H2 _ I2 q2)
  rintro dv s3 ⟨z, H3, I3, rz, kvs, k, b, ea, rfl, eb, len, there, absent⟩
  apply Calls.spliced_nil
  have ek : kv = Value.ref b := ry
  rw [ek]
  obtain ⟨lim, own, xs, rel, dd⟩ := dt_of I3.hok ea
  have lim' : xs.length ≤ sizeLine := by
    rw [← Paired.length rel]
    exact lim
  refine call_setdefault_heap (tupleKind_room_in1 hu) (key_of I3.hok eb) own dd (fun p hp => ?_) (fun hn h' dd' but => ?_) lim'
  · have r := rel.val k
    rw [hp] at r
    cases c : valV kvs k with
    | none =>
      rw [c] at r
      exact (show False from r).elim
    | some v =>
      rw [c] at r
      exact ⟨v, H3, I3.tok _, r, there v c⟩
  · have r := rel.val k
    rw [hn] at r
    cases c : valV kvs k with
    | some v =>
      rw [c] at r
      exact (show False from r).elim
    | none =>
      have len' : (putK kvs k z).length ≤ sizeLine := by
        have := length_putK kvs k z
        omega
      obtain ⟨ob, es, ep, hq, h2, h3, h4, _, h5⟩ := dd'
      refine ⟨z, upd H3 a (.dT (putK kvs k z)), d_write (t' := s3.toks + _) I3 (by rw [ea]; trivial) but ⟨ob, hq⟩ ⟨len', own, _, (rel.put k eb rz).keeps (fun c ys ec => ?_), ob, es, ep, hq, h2, h3, h4, h5⟩, rz, absent c⟩
      have ne : c ≠ a := ne_of ec ea (fun z => nomatch z)
      rw [upd_ne ne]
      exact ec
theorem x_dsetT {σ : L2.St} {H : Hp} {Q : VK} (h : td σ H fun x H1 => SdV ty tx σ x H1 Q) : tDSetT td ty tx σ H Q := h
def SdW (a : Addr) (y z : V) (H3 : Hp) (Q : VK) : Prop := ∃ (kvs : List (List Key × V)) (k : List Key) (b : Addr), H3 a = some (.dT kvs) ∧ y = .ref b ∧ H3 b = some (.tup (k.map kV)) ∧ kvs.length < sizeLine ∧
  (∀ v, valV kvs k = some v → Q v H3) ∧ (valV kvs k = none → Q z (upd H3 a (.dT (putK kvs k z))))
theorem sdv {a : Addr} {σ : L2.St} {H : Hp} {Q : VK} (h : IsD H a) (k : ty σ H fun y H2 => tx σ H2 fun z H3 => SdW a y z H3 Q) : SdV ty tx σ (.ref a) H Q := ⟨a, rfl, h, k⟩
theorem sdw {a b : Addr} {z : V} {H : Hp} {Q : VK} {kvs : List (List Key × V)} {k : List Key} (h : H a = some (.dT kvs)) (e : H b = some (.tup (k.map kV))) (l : kvs.length ≤ 100000) (h1 : ∀ v, valV kvs k = some v → Q v H)
    (h2 : valV kvs k = none → ∀ H', Kp a H H' → H' a = some (.dT (putK kvs k z)) → Q z H') : SdW a (.ref b) z H Q := ⟨kvs, k, b, h, rfl, e, sz' l, h1, fun n => h2 n _ Kp.upd upd_same⟩
end
section
variable {X : Cx} {e : Expr} {te : TE} {apos cpos p pos : Pos}
def LvV (x : V) (H : Hp) (Q : VK) : Prop := ∃ (d : Addr) (kvs : List (Key × V)), x = .ref d ∧ H d = some (.dK kvs) ∧ ∀ q, H q = none → Q (.ref q) (upd H q (.lst (kvs.map (·.2))))
def tListValues (te : TE) : TE := fun σ H Q => te σ H fun x H1 => LvV x H1 Q
theorem x_lvals {σ : L2.St} {H : Hp} {Q : VK} (h : te σ H fun x H1 => LvV x H1 Q) : tListValues te σ H Q := h
theorem lvv {d : Addr} {kvs : List (Key × V)} {H : Hp} {Q : VK} (h : H d = some (.dK kvs)) (k : ∀ q H', H q = none → L2.Same H H' → H' q = some (.lst (kvs.map (·.2))) → Q (.ref q) H') : LvV (.ref d) H Q :=
  ⟨d, kvs, rfl, h, fun q f => k q _ f (LH.Same.new f) upd_same⟩
theorem vals_of {kvs : List (Key × V)} {vs : List (Key × Value)} (r : KV kvs vs) : Vals (kvs.map (·.2)) (vs.map (·.2)) := by
  induction r with
  | nil => exact .nil
  | cons h _ ih => exact .cons h.2 ih
/-- list(e.values()) -/
theorem pe_listValues (calm : X.calm = true) (he : PE X e te) (hg : Gl X "list") (hm : X.mg "list" = none) (hv : bootBuiltins "list" = some (.type "list")) (h1 : attributeBase e "values" X.env (eval e X.env) = eval e X.env := by rfl) (h2 : (apos.endLine == cpos.line) = true := by rfl)
    (h3 : starEach [.Call (.Attribute e "values" apos) [] [] cpos] X.env = (false, eval (.Call (.Attribute e "values" apos) [] [] cpos) X.env) :: starEach [] X.env := by rfl) :
    PE X (.Call (.Name "list" p) [.Call (.Attribute e "values" apos) [] [] cpos] [] pos) (tListValues te) := by
  constructor
  intro pins s σ H Q I need
  apply wpAny_Call_Name_kw (ld_blt I hg hm hv _)
  refine PyProof.Rows.callWith_type1 ?_ h3 rfl
  rw [h3]
  show wpAny _ _ (spliced ((false, eval (.Call (.Attribute e "values" apos) [] [] cpos) X.env) :: backTo pos (starEach [] X.env))) _ _ s
  apply Calls.spliced_cons
  apply wpAny_Call_method (T := "dict") (id := "dict.values") h1 rfl h2 F.plainAttrs_dict F.slot_dict_values F.type_dict_values
  apply thn (he.run pins s σ H _ I need)
  rintro u s1 ⟨x, H1, I1, rx, d, kvs, rfl, hd, q⟩
  have eu : u = Value.ref d := rx
  rw [eu]
  obtain ⟨lim, own, vs, rel, dd⟩ := I1.hok d _ hd
  obtain ⟨ep, at_⟩ := dd.dictAt
  have ll : kvs.length = vs.length := Paired.length rel
  refine ⟨dd.typeIs, dd.mapOf.noDict, ?_⟩
  show wpAny _ _ (callWith cpos (.builtin "dict.values") [.ref d] [] []) _ X.xe s1
  refine method_meetsIn F.slot_dict_values F.entry_dict_values rfl (PySem.evalArgs_none ⟨rfl, dd.typeIs, F.args_dict_values_1 _, _, meets_dict_values (mixKind X.prog X.w) d own, ⟨vs, dd⟩, ?_⟩)
  apply Calls.spliced_nil
  refine PySem.W.kdl_call (PySem.W.kdl_values (knd := mixKind X.prog X.w) (kvs := vs) (ep := ep)) (I1.ok.hd calm) ⟨⟨_, Heap.get?_push_size _ rfl, rfl, rfl⟩, at_.push _⟩ (by omega) fun h' tk acc c kept got items => ?_
  have eq : acc.toList = vs.map (·.2) := PySem.W.kdl_vals_eq acc.toList (by rw [Array.length_toList]; exact items.1) fun j v hj => items.2 j v (by rw [← Array.getElem?_toList]; exact hj)
  have new : H1 (s1.heap.push { cls := .type "dict_values", data := .fields #[.ref d] }).objs.size = none := I1.hok.fresh (by rw [Heap.size_push]; exact Nat.le_succ _)
  refine ⟨.ref _, upd H1 _ (.lst (kvs.map (·.2))), I1.laid (t' := tk) (fun b ob hb => kept b ob (Heap.get?_push_of_some _ hb)) (by rw [Heap.size_push]; exact Nat.le_succ _) ⟨by rw [List.length_map]; exact lim, acc.toList, c, ?_, ?_⟩, rfl, q _ new⟩
  · rw [eq]
    exact vals_of rel
  · rw [Array.toArray_toList]
    exact got
end
end LH
/-! sets of ints and texts by a comprehension; how many they are -/
namespace LH
open PySem PySem.Spec PyProof.Rows L2 PpSet
section
variable {X : Cx}
theorem freshK {P : Program} {w : World} (h : Heap) : (h.push { cls := .type "set", dict := none, data := .set #[] 0 (.fresh 0 0 (!w.params.followText "set-order")) }).SetOf (mixKind P w) h.objs.size (fun _ => false) 0 :=
  ⟨_, #[], 0, _, Heap.get?_push_size _ rfl, ⟨rfl, rfl, rfl⟩, rfl, (fun e he => by simp at he), (fun k => by simp), (by decide), (by rfl), rfl⟩
theorem addK_ok {pins : List (Addr × Obj)} {σ : L2.St} {H : Hp} {s : Shared} {E : Value → Shared → Prop} {D : Addr} {S : Key → Bool} {n : Nat} {y : Key} {u : Value} {Q : Value → Shared → Prop} (I : Inv X pins σ H s) (ry : RelV (kV y) u)
    (at_ : H D = some (SetK X.prog X.w D S n)) (room : n + 1 < scanBound)
    (k : ∀ s', Inv X pins σ (upd H D (SetK X.prog X.w D (fun j => S j || decide (j = y)) (if S y = true then n else n + 1))) s' → Q .none s') : wpAny (model X.prog X.w) X.A (call (.builtin "set.add") [.ref D, u]) Q E s := by
  apply call_set_add (kV_is ry) (key_scan ry) (setK_get I at_) room
  intro h' but new
  have there : ∃ u, h'.get? D = some u := by
    obtain ⟨o, _, _, _, ho, _⟩ := id new
    exact ⟨o, ho⟩
  exact k _ (I.write (e := D) (t' := s.toks + 1) (by rw [at_]; trivial) (.inl rfl) (fun b v hb hv => (but.2 b hb).trans hv) there (setK_new new))
/-- what a turn of the comprehension leaves -/
def ScT (P : Program) (w : World) (J : It) (g : TG) (tt : TT) (te : TE) (vs : List Nat) (σ : L2.St) (D : Addr) (i m : Nat) (W : Nat → Nat → Hp → Prop) (Q : VK) (H : Hp) : Prop :=
  (J.stop i H ∧ Q (.ref D) H) ∨ (J.go i H ∧ ∃ Nx : Hp → Prop, (∀ H', Nx H' → ∃ m', m' < m ∧ W (i + 1) m' H') ∧ ∀ x H', J.yld i H x H' → g x (wipe σ vs) H' fun σ2 H2 => wipe σ2 vs = wipe σ vs ∧ tt σ2 H2 fun b H3 =>
    if b = true then te σ2 H3 fun y H4 => ∃ (c : Key) (S : Key → Bool) (n : Nat), y = kV c ∧ H4 D = some (SetK P w D S n) ∧ n + 1 < scanBound ∧ Nx (upd H4 D (SetK P w D (fun j => S j || decide (j = c)) (if S c = true then n else n + 1))) else Nx H3)
def tScK (P : Program) (w : World) (wi : TI) (g : TG) (tt : TT) (te : TE) (vs : List Nat) : TE := fun σ H Q => wi σ H fun J H1 => ∀ D, H1 D = none → ∃ W : Nat → Nat → Hp → Prop, (∃ m, W 0 m (upd H1 D (SetK P w D (fun _ => false) 0))) ∧ ∀ i m H, W i m H → ScT P w J g tt te vs σ D i m W Q H
/-- {elt for target in iter if ..}, elt an int or a text: what comes behind it is a letter -/
theorem scK_core {pins : List (Addr × Obj)} {s : Shared} {σ : L2.St} {H : Hp} {Q : VK} {elt tg iter : Expr} {ifs : List Expr} {scope : Scope} {own : List (PySem.Str × Nat)} {pos pos' : Pos} {wi : TI} {g : TG} {tt : TT} {te : TE} {use : Option (Value → Sem Unit)} {Qf : Value → Shared → Prop}
    (calm : X.calm = true) (nd : X.N.Nodup) (I : Inv X pins σ H s) (hi : PI X tg iter wi) (ok : BlkOk X.N X.env.scope scope own)
    (hg : ∀ (s : Shared) (H : Hp) (C : Addr) (cl : List (PySem.Str × Addr)) (fp : List Addr), PG (X.blk s H scope (compEnvC scope cl C X.env) fp) tg g)
    (ht : ∀ (s : Shared) (H : Hp) (C : Addr) (cl : List (PySem.Str × Addr)) (fp : List Addr), PTs (X.blk s H scope (compEnvC scope cl C X.env) fp) ifs tt)
    (he : ∀ (s : Shared) (H : Hp) (C : Addr) (cl : List (PySem.Str × Addr)) (fp : List Addr), PE (X.blk s H scope (compEnvC scope cl C X.env) fp) elt te)
    (fold : ∀ x, foldedSetIterable iter X.env x = pure x) (need : tScK X.prog X.w wi g tt te (own.map (·.2)) σ H Q)
    (then_ : ∀ D C s' m H', Inv X pins σ H' s' → Q (.ref D) H' → s'.heap.Ns C m → FpOk X pins H' C → compPost (model X.prog X.w) X.A X.xe use Qf (.ref D) C (.ok .next) s') :
    wpAny (model X.prog X.w) X.A (comprehension (.SetComp elt [⟨tg, iter, ifs, 0⟩] scope pos) scope X.env pos' (newSet (.type "set")) false (eval iter X.env) use) Qf X.xe s := by
  have bound : ∀ y ∈ scope.names, y.2 = .free → ∃ c, X.env.cells.lookup y.1 = some c := fun y hy e => by
    rcases ok.free y hy e with k | k
    · exact I.ok.has _ (.inl k)
    · exact I.ok.has _ (.inr k)
  apply wpAny_comprehension_free (use := use) rfl fold (closure_ok bound) ok.kind (fun y hy e => by rw [ok.uniq y hy, e])
  apply thn (hi.run pins s σ H _ I need)
  intro xv s1 hx
  apply thn hx
  rintro itv s2 ⟨it, fp, tn, J, H2, rfl, I2, T, st2, f2, q⟩
  apply newSet_ok
  apply newEnv_comp
  generalize eD : s2.heap.objs.size = D
  have noD : H2 D = none := I2.hok.fresh (Nat.le_of_eq eD)
  obtain ⟨W, ⟨m0, w0⟩, turn⟩ := q D noD
  generalize es3 : ({ s2 with heap := s2.heap.push { cls := .type "set", dict := none, data := .set #[] 0 (.fresh 0 0 (!X.w.params.followText "set-order")) } } : Shared) = s3
  have hp3 : s3.heap = s2.heap.push { cls := .type "set", dict := none, data := .set #[] 0 (.fresh 0 0 (!X.w.params.followText "set-order")) } := by rw [← es3]
  have I3 : Inv X pins σ (upd H2 D (SetK X.prog X.w D (fun _ => false) 0)) s3 := by
    subst es3 eD
    exact I2.laid (t' := s2.toks) (fun b o hb => Heap.get?_push_of_some _ hb) (Nat.le_refl _) (setK_new (freshK _))
  have old : ∀ b ∈ fp, b < s2.heap.objs.size := fun b hb => by
    obtain ⟨o, e, _⟩ := T.obj _ _ st2 b hb
    exact Heap.lt_size e
  have f3 : ∀ b ∈ fp, FpOk X pins (upd H2 D (SetK X.prog X.w D (fun _ => false) 0)) b ∧ b < s3.heap.objs.size := fun b hb => by
    have lt := old b hb
    have ne : b ≠ D := by
      rw [← eD]
      exact Nat.ne_of_lt lt
    exact ⟨⟨(upd_ne ne).trans (f2 b hb).1, (f2 b hb).2⟩, by rw [hp3, Heap.size_push]; exact Nat.lt_succ_of_lt lt⟩
  have st3 : tn 0 s3.heap := T.keep _ _ _ st2 fun b _ o e => by
    rw [hp3]
    exact Heap.get?_push_of_some _ e
  have I4 := block_start I3 ok nd f3
  have pg := hg s3 (upd H2 D (SetK X.prog X.w D (fun _ => false) 0)) s3.heap.objs.size (cellsFrom (s3.heap.objs.size + 1) scope.names (cloFrom X.env.cells scope.names [])) fp
  have pt := ht s3 (upd H2 D (SetK X.prog X.w D (fun _ => false) 0)) s3.heap.objs.size (cellsFrom (s3.heap.objs.size + 1) scope.names (cloFrom X.env.cells scope.names [])) fp
  have pe := he s3 (upd H2 D (SetK X.prog X.w D (fun _ => false) 0)) s3.heap.objs.size (cellsFrom (s3.heap.objs.size + 1) scope.names (cloFrom X.env.cells scope.names [])) fp
  show codeAny _ _ (.compStart (.SetComp elt [⟨tg, iter, ifs, 0⟩] scope pos) 0 (.ref it) (.ref D) (compEnvC scope (cellsFrom (s3.heap.objs.size + 1) scope.names (cloFrom X.env.cells scope.names [])) s3.heap.objs.size X.env)) _ { s3 with heap := pushCells (s3.heap.push { cls := .type "dict", data := .dict #[] }) scope.names }
  have no3 : ∀ b ∈ fp, (upd H2 D (SetK X.prog X.w D (fun _ => false) 0)) b = none := fun b hb => (f3 b hb).1.1
  generalize env3 : compEnvC scope (cellsFrom (s3.heap.objs.size + 1) scope.names (cloFrom X.env.cells scope.names [])) s3.heap.objs.size X.env = ce at I4 pg pt pe ⊢
  have here : ce.locals = s3.heap.objs.size := by
    subst env3
    rfl
  generalize eH3 : upd H2 D (SetK X.prog X.w D (fun _ => false) 0) = H3 at I3 I4 pg pt pe w0 no3 f3
  generalize es4 : ({ s3 with heap := pushCells (s3.heap.push { cls := .type "dict", data := .dict #[] }) scope.names } : Shared) = s4 at I4 ⊢
  have st4 : tn 0 s4.heap := T.keep _ _ _ st3 fun b _ o e => by
    rw [← es4]
    exact pushCells_keeps _ _ _ _ (Heap.get?_push_of_some _ e)
  have still : ∀ {σ' : L2.St} {H' : Hp} {s' : Shared}, Inv (X.blk s3 H3 scope ce fp) [] σ' H' s' → (∀ b ∈ fp, H' b = none) → ∀ b ∈ fp, FpOk (X.blk s3 H3 scope ce fp) [] H' b := fun {σ' H' s'} I' no b hb =>
    ⟨no b hb, (I'.ok.exf b hb).1, I'.ok.exfs b hb, .inl hb, fun x c e => (I'.ok.exf b hb).2 x c e, fun p hp => absurd (show p ∈ ([] : List (Addr × Obj)) ++ [] from hp) (by simp)⟩
  suffices loop : codeAny (model X.prog X.w) X.A (.compLoop (.SetComp elt [⟨tg, iter, ifs, 0⟩] scope pos) 0 (.ref it) (.ref D) ce) (compPost (model X.prog X.w) X.A X.xe use Qf (.ref D) s3.heap.objs.size) s4 from
    codeAny_compStart_set loop (T.self X.A 0 _ _ _ st4 loop)
  apply compLoopS_any (fun n s' => ∃ i H', Inv (X.blk s3 H3 scope ce fp) [] (wipe σ (own.map (·.2))) H' s' ∧ tn i s'.heap ∧ (∀ b ∈ fp, H' b = none) ∧ W i n H') _ m0 ⟨0, H3, I4, st4, no3, w0⟩
  rintro n s5 ⟨i, H5, I5, st5, no5, w5⟩
  rcases turn i n H5 w5 with ⟨stop, fin⟩ | ⟨go, Nx, hNx, step⟩
  · apply thnF (T.done (X.blk s3 H3 scope ce fp) rfl rfl rfl calm i [] s5 _ H5 (fun _ _ => False) I5 (still I5 no5) st5 stop)
    rintro r s6 ⟨rfl, I6⟩
    have I7 : Inv X pins σ H5 s6 := I3.call' (ch := fp) I6.os I6.base I6.hok I6.bare fun b hb => ⟨(f3 b hb).1.2.2.2.1, (f3 b hb).1.2.1, (f3 b hb).1.2.2.2.2.1, (f3 b hb).1.2.2.2.2.2⟩
    have noC : H5 s3.heap.objs.size = none := by
      have z : H5 ce.locals = none := I6.free
      rwa [here] at z
    obtain ⟨m, ns, _⟩ := I6.loc
    have ns : s6.heap.Ns ce.locals m := ns
    rw [here] at ns
    exact then_ D s3.heap.objs.size s6 m H5 I7 fin ns (I3.fpOk (Nat.le_refl _) noC)
  · apply thnF (T.item (X.blk s3 H3 scope ce fp) rfl rfl rfl calm i [] s5 _ H5 (fun _ _ => False) I5 (still I5 no5) st5 go)
    rintro r s6 ⟨u, rfl, h6⟩
    apply thnF h6
    rintro _ s7 ⟨x, H7, I7, r7, y7, st7, no7⟩
    have I7' := I7.pinned (still I7 no7) (T.obj _ _ st7)
    apply thnF (pg.run _ s7 _ H7 x u _ I7' r7 (step x H7 y7))
    rintro _ s8 ⟨σ8, H8, I8, same8, q8⟩
    apply thnF (pt.run _ s8 σ8 H8 _ I8 q8)
    rintro b s9 ⟨H9, I9, q9⟩
    have again : ∀ {s' : Shared} {H' : Hp}, Inv (X.blk s3 H3 scope ce fp) ([] ++ pinsAt fp s7.heap) σ8 H' s' → Nx H' → ∃ m, m < n ∧ ∃ i H', Inv (X.blk s3 H3 scope ce fp) [] (wipe σ (own.map (·.2))) H' s' ∧ tn i s'.heap ∧ (∀ b ∈ fp, H' b = none) ∧ W i m H' := fun {s' H'} I' nx => by
      obtain ⟨m', lt, w'⟩ := hNx H' nx
      have pinned : ∀ b ∈ fp, ∀ o, s7.heap.get? b = some o → s'.heap.get? b = some o ∧ H' b = none := fun b hb o e => by
        have z := I'.pin (b, o) (List.mem_append_right _ (List.mem_append_right _ (mem_pinsAt hb e)))
        exact ⟨z.1, z.2.1⟩
      have len : (wipe σ (own.map (·.2))).length = σ8.length := by rw [← same8, wipe_length]
      refine ⟨m', lt, i + 1, H', (I'.unpinned (pins := [])).weak len (fun j v e => ?_), T.keep _ _ _ st7 fun b hb o e => (pinned b hb o e).1, fun b hb => ?_, w'⟩
      · rw [← same8] at e
        exact (wipe_some e).1
      · obtain ⟨o, e, _⟩ := T.obj _ _ st7 b hb
        exact (pinned b hb o e).2
    cases b with
    | false =>
      rw [if_neg Bool.false_ne_true] at q9
      rw [if_neg Bool.false_ne_true]
      exact again I9 q9
    | true =>
      rw [if_pos rfl] at q9
      rw [if_pos rfl]
      apply thnF (pe.run _ s9 σ8 H9 _ I9 q9)
      rintro z s10 ⟨yv, H10, I10, r10, c, S0, n0, rfl, at10, room10, nx⟩
      exact addK_ok (X := X.blk s3 H3 scope ce fp) I10 r10 at10 room10 fun s11 I11 => again I11 nx
/-- as a value -/
theorem pe_scK {elt tg iter : Expr} {ifs : List Expr} {scope : Scope} {own : List (PySem.Str × Nat)} {pos : Pos} {wi : TI} {g : TG} {tt : TT} {te : TE} (calm : X.calm = true) (nd : X.N.Nodup) (hi : PI X tg iter wi) (ok : BlkOk X.N X.env.scope scope own)
    (hg : ∀ (s : Shared) (H : Hp) (C : Addr) (cl : List (PySem.Str × Addr)) (fp : List Addr), PG (X.blk s H scope (compEnvC scope cl C X.env) fp) tg g)
    (ht : ∀ (s : Shared) (H : Hp) (C : Addr) (cl : List (PySem.Str × Addr)) (fp : List Addr), PTs (X.blk s H scope (compEnvC scope cl C X.env) fp) ifs tt)
    (he : ∀ (s : Shared) (H : Hp) (C : Addr) (cl : List (PySem.Str × Addr)) (fp : List Addr), PE (X.blk s H scope (compEnvC scope cl C X.env) fp) elt te)
    (fold : ∀ x, foldedSetIterable iter X.env x = pure x := by intro _; rfl) :
    PE X (.SetComp elt [⟨tg, iter, ifs, 0⟩] scope pos) (tScK X.prog X.w wi g tt te (own.map (·.2))) := by
  constructor
  intro pins s σ H Q I need
  rw [eval_SetComp]
  apply scK_core calm nd I hi ok hg ht he fold need
  rintro D C s' m H' I' q hn ⟨z0, z1, z2, z3, z4, z5⟩
  exact ⟨m, hn, fun h'' but => ⟨.ref D, H', I'.turned (t' := s'.toks) (fun b o hb e => (but.2 b hb).trans e) z0 z1 z3 z4 z5, rfl, q⟩⟩
theorem sw_trueS {elt : Expr} {gs : List Comprehension} {scope : Scope} {pos py : Pos} {y : PySem.Str} {l : Nat} {env : Env} (h1 : env.scope.kind = .function) (h2 : env.scope.names.lookup y = some .local) (h3 : (py.line == pos.line) = true)
    (h4 : (scope.names.any fun (n, k) => n == y && (k == .local || k == .cell)) = false) : swapsWith (.SetComp elt gs scope pos) (some (.Name y py)) l env = pure true := by
  have k1 : env.kindOf y = some .local := h2
  have k2 : env.blockKind = .function := by
    unfold Env.blockKind
    rw [h1] <;> rfl
  unfold swapsWith
  simp only [k2, k1, h4, Expr.pos, h3]
  rfl
/-- name = {..} on one line, the name a local -/
theorem ps_setScK {i : Nat} {y : PySem.Str} {py : Pos} {elt tg iter : Expr} {ifs : List Expr} {scope : Scope} {own : List (PySem.Str × Nat)} {pos spos : Pos} {wi : TI} {g : TG} {tt : TT} {te : TE} (calm : X.calm = true) (nd : X.N.Nodup) (hy : X.N[i]? = some y) (loc : X.env.scope.names.lookup y = some .local)
    (swap : swapsWith (.SetComp elt [⟨tg, iter, ifs, 0⟩] scope pos) (some (.Name y py)) spos.line X.env = pure true) (hi : PI X tg iter wi) (ok : BlkOk X.N X.env.scope scope own)
    (hg : ∀ (s : Shared) (H : Hp) (C : Addr) (cl : List (PySem.Str × Addr)) (fp : List Addr), PG (X.blk s H scope (compEnvC scope cl C X.env) fp) tg g)
    (ht : ∀ (s : Shared) (H : Hp) (C : Addr) (cl : List (PySem.Str × Addr)) (fp : List Addr), PTs (X.blk s H scope (compEnvC scope cl C X.env) fp) ifs tt)
    (he : ∀ (s : Shared) (H : Hp) (C : Addr) (cl : List (PySem.Str × Addr)) (fp : List Addr), PE (X.blk s H scope (compEnvC scope cl C X.env) fp) elt te)
    (fold : ∀ x, foldedSetIterable iter X.env x = pure x := by intro _; rfl) :
    PS X (.Assign [.Name y py] (.SetComp elt [⟨tg, iter, ifs, 0⟩] scope pos) spos) (tAsg (tScK X.prog X.w wi g tt te (own.map (·.2))) (gName i)) := by
  constructor
  intro pins s σ H D I need
  rw [exec_Assign_Name_used _ _ _ _ swap]
  apply wpAny_bind
  apply wpAny_standAt
  apply wpAny_bind
  show wpAny _ X.A (do let _ ← comprehension (.SetComp elt [⟨tg, iter, ifs, 0⟩] scope pos) scope X.env (firstIterPos [⟨tg, iter, ifs, 0⟩] pos) (newSet (.type "set")) false (eval iter X.env) (some (assign (.Name y py) X.env))) _ _ s
  have need : tScK X.prog X.w wi g tt te (own.map (·.2)) σ H (fun x H1 => gName i x σ H1 D.nx) := need
  apply wpAny_bind
  refine thn (scK_core (Qf := fun _ s' => SP X pins D .next s') calm nd I hi ok hg ht he fold need ?_) fun _ s' hq => wpAny_pure (wpAny_pure hq)
  rintro L C s' m H' I' q hn ⟨z0, z1, z2, z3, z4, z5⟩
  show wpAny _ _ (assign (.Name y py) X.env (.ref L)) _ _ _
  apply wpAny_assign_Name
  refine store_ok2 (v := V.ref L) I' nd hy (.inl loc) rfl ?_ (.inr loc)
  rintro s2 I2 ⟨a, but, ha⟩
  have ne : C ≠ a := by
    rcases ha with z | z
    · rw [z]
      exact z1
    · exact fun e => z4 y a z e.symm
  exact ⟨m, hn.sameBut but ne, fun h3 but3 => ⟨_, H', I2.turned (t' := s2.toks) (fun b o hb e => (but3.2 b hb).trans e) z0 z1 z3 z4 z5, q⟩⟩
end
end LH
namespace LH
open PySem L2
section
variable {P : Program} {w : World} {K : PySem.W.Frag} {σ : L2.St} {H : Hp} {Q : VK} {te tl : TE}
/-- over a list: the i-th item gives the int ns[i] -/
def ScV (P : Program) (w : World) (K : PySem.W.Frag) (g : TG) (te : TE) (vs : List Nat) (σ : L2.St) (x : V) (H1 : Hp) (Q : VK) : Prop :=
  ∃ a, x = .ref a ∧ (∃ xs, SqL K H1 a xs) ∧ ∀ D, H1 D = none → ∃ W : Nat → Nat → Hp → Prop, (∃ m, W 0 m (upd H1 D (SetK P w D (fun _ => false) 0))) ∧ ∀ i m H, W i m H → ScT P w (Itl K a) g tYes te vs σ D i m W Q H
theorem x_scK {g : TG} {vs : List Nat} (h : tl σ H fun x H1 => ScV P w K g te vs σ x H1 Q) : tScK P w (iList K tl) g tYes te vs σ H Q := h
theorem sc_L {a : Addr} {xs : List V} {ns : List Int} {j : Nat} {vs : List Nat} (hx : SqL K H a xs) (hz : xs.length ≤ 4000) (hn : ns.length = xs.length)
    (hw : ∀ x, wipe ((wipe σ vs).set j (some x)) vs = wipe σ vs)
    (he : ∀ (i : Nat) x z, xs[i]? = some x → ns[i]? = some z → ∀ H1, L2.Same H H1 → ∀ Q : VK, (∀ H2, L2.Same H1 H2 → Q (.int z) H2) → te ((wipe σ vs).set j (some x)) H1 Q)
    (k : ∀ D H2 S n, H D = none → L2.Same H H2 → H2 D = some (SetK P w D S n) → n ≤ ns.length → (n = ns.length ↔ ns.Nodup) → Q (.ref D) H2) : ScV P w K (gName j) te vs σ (.ref a) H Q := by
  refine ⟨a, rfl, ⟨xs, hx⟩, fun D hD => ?_⟩
  let Pv : Nat → Hp → Prop := fun i H' => L2.Same H H' ∧ ∃ S n, H' D = some (SetK P w D S n) ∧ n ≤ i ∧ (n = i ↔ (ns.take i).Nodup) ∧ ∀ z : Int, S (Sum.inl z) = true ↔ z ∈ ns.take i
  refine ⟨fun i m H' => m = xs.length - i ∧ i ≤ xs.length ∧ Pv i H', ⟨xs.length, by simp, Nat.zero_le _, LH.Same.new hD, _, 0, upd_same, Nat.le_refl _, by simp, fun z => by simp⟩, ?_⟩
  rintro i m H' ⟨rfl, hi, e0, S, n, gD, ln, nd, mem⟩
  have q := L2.Same.seq e0 hx
  by_cases lt : i < xs.length
  · refine .inr ⟨⟨xs, xs[i], q, by simp [lt]⟩, Pv (i + 1), fun H2 p2 => ⟨xs.length - (i + 1), by omega, rfl, lt, p2⟩, ?_⟩
    rintro x H2 ⟨rfl, y⟩
    have hxi := y xs q
    have hz2 : ns[i]? = some (ns[i]'(by omega)) := List.getElem?_eq_getElem (by omega)
    generalize ns[i]'(by omega) = z at hz2
    refine ⟨hw x, ?_⟩
    suffices goal : te ((wipe σ vs).set j (some x)) H2 fun y H4 => ∃ (c : Key) (S : Key → Bool) (n : Nat), y = kV c ∧ H4 D = some (SetK P w D S n) ∧ n + 1 < scanBound ∧ Pv (i + 1) (upd H4 D (SetK P w D (fun j => S j || decide (j = c)) (if S c = true then n else n + 1))) by
      exact x_yes (by rw [if_pos rfl]; exact goal)
    refine he i x z hxi hz2 _ e0 _ fun H3 e3 => ⟨Sum.inl z, S, n, rfl, e3 _ _ gD, ?_, Same.mut (e0.trans e3) hD, _, _, upd_same, ?_, ?_, ?_⟩
    · unfold scanBound
      omega
    · split <;> omega
    · rw [take_more hz2, List.nodup_append]
      by_cases c : S (Sum.inl z) = true
      · rw [if_pos c]
        have hm := (mem z).mp c
        constructor
        · intro h
          omega
        · rintro ⟨_, _, h3⟩
          exact absurd rfl (h3 z hm z (List.mem_singleton.mpr rfl))
      · rw [if_neg c]
        constructor
        · intro h
          refine ⟨nd.mp (by omega), by simp, fun b hb b' hb' e => c ((mem z).mpr ?_)⟩
          rw [List.mem_singleton.mp hb'] at e
          rw [← e]
          exact hb
        · rintro ⟨h1, _, _⟩
          have := nd.mpr h1
          omega
    · intro u
      show (S (Sum.inl u) || decide ((Sum.inl u : Key) = Sum.inl z)) = true ↔ _
      rw [take_more hz2, List.mem_append, List.mem_singleton, Bool.or_eq_true, mem u, decide_eq_true_eq]
      constructor
      · rintro (h | h)
        · exact .inl h
        · injection h with h
          exact .inr h
      · rintro (h | h)
        · exact .inl h
        · exact .inr (by rw [h])
  · have e : i = xs.length := by omega
    subst e
    refine .inl ⟨⟨xs, q, Nat.le_refl _⟩, k D H' S n hD e0 gD (by omega) ?_⟩
    rw [← hn] at nd
    rw [List.take_length] at nd
    exact nd
end
end LH
namespace LH
open PySem PySem.Spec PyProof.Rows L2
/-- len of such a set -/
def rLenK (P : Program) (w : World) : List V → Hp → VK → Prop := fun xs H Q => ∃ (a : Addr) (S : Key → Bool) (n : Nat), xs = [.ref a] ∧ H a = some (SetK P w a S n) ∧ Q (.int n) H
theorem call_lenK {X : Cx} : CallR X (.builtin "len") (rLenK X.prog X.w) := by
  intro pins s σ H xs us Q I r h
  obtain ⟨a, S, n, rfl, ha, q⟩ := h
  obtain ⟨u, rfl, ru⟩ := r.one
  have eu : u = Value.ref a := ru
  rw [eu]
  obtain ⟨o, es, ep, t, at_, exact_, data, _, _, small, fits, count⟩ := setK_get I ha
  refine call_len_set at_ exact_ data fits (by unfold scanBound at small; omega) ⟨.int n, H, I.tok _, ⟨_, by rw [count]⟩, q⟩
theorem x_lenK {P : Program} {w : World} {a : Addr} {S : Key → Bool} {n : Nat} {H : Hp} {Q : VK} (h : H a = some (SetK P w a S n)) (q : Q (.int n) H) : rLenK P w [.ref a] H Q := ⟨a, S, n, rfl, h, q⟩
end LH
/-! numbers, rows, words, as plain mathematics; data -/
namespace LM
open PySem L2
variable {K : PySem.W.Frag}
def isW : V → Int → Int → Bool
  | .int i, lo, hi => decide (lo ≤ i) && decide (i ≤ hi)
  | _, _, _ => false
theorem isW_int {x : V} {lo hi : Int} (h : isW x lo hi = true) : ∃ i, x = .int i ∧ lo ≤ i ∧ i ≤ hi := by
  cases x <;> simp [isW] at h
  exact ⟨_, rfl, h.1, h.2⟩
theorem isW_yes {i lo hi : Int} (h1 : lo ≤ i) (h2 : i ≤ hi) : isW (.int i) lo hi = true := by simp [isW, h1, h2]
def letters : Str := "abcdefghijklmnopqrstuvwxyz"
def isLet (c : Nat) : Bool := decide (c ∈ letters.cps.toList)
def isRowS (z : Str) : Bool := decide (1 ≤ z.length) && (decide (z.length ≤ 8) && z.cps.toList.all isLet)
def isRow : V → Bool
  | .str z => isRowS z
  | _ => false
/-- no text beyond a hundred thousand signs -/
def Ok (z : Str) : Prop := z.length ≤ 100000 ∧ z.cps.all (· < 0x110000) = true
def Sm (x : V) : Prop := ∀ z, x = .str z → Ok z
def signV : V → Bool
  | .str z => match z.cps.toList with
    | [c] => isLet c
    | _ => false
  | _ => false
theorem signs_let (z : Str) : ((LH.signs z).filter fun _ => true).map (fun x => V.bl (signV x)) = (z.cps.toList.map isLet).map V.bl := by
  rw [List.filter_eq_self.mpr (fun _ _ => rfl)]
  unfold LH.signs
  rw [List.map_map, List.map_map]
  rfl
theorem all_id (l : List Nat) : (l.map isLet).all id = l.all isLet := by
  rw [List.all_map]
  rfl
/-! ### texts of letters -/
theorem cut_lo (z : Str) (k : Nat) : cutS z none (some (k : Int)) = ⟨(z.cps.toList.take k).toArray⟩ := by
  unfold cutS
  rw [HT.sIx_none, HT.sIx_nat, List.drop_zero, Nat.sub_zero]
  congr 2
  have : z.length = z.cps.toList.length := by rw [Array.length_toList]; rfl
  rw [this]
  exact (List.take_eq_take_min).symm
theorem cut_hi (z : Str) (k : Nat) : cutS z (some (k : Int)) none = ⟨(z.cps.toList.drop k).toArray⟩ := by
  unfold cutS
  rw [HT.sIx_none, HT.sIx_nat]
  congr 1
  have e : z.length = z.cps.toList.length := by rw [Array.length_toList]; rfl
  rw [e]
  by_cases h : k ≤ z.cps.toList.length
  · rw [Nat.min_eq_left h, List.take_of_length_le]
    rw [List.length_drop]
    exact Nat.le_refl _
  · rw [Nat.min_eq_right (by omega), List.drop_of_length_le (by omega), List.drop_of_length_le (by omega), List.take_nil]
theorem join_signs : ∀ cs : List Nat, Txt.join (Str.ofString "") (cs.map fun c => (⟨#[c]⟩ : Str)) = ⟨cs.toArray⟩ := fun cs => by
  have e0 : Str.ofString "" = SX.S [] := rfl
  have e1 : (cs.map fun c => (⟨#[c]⟩ : Str)) = (cs.map fun c => [c]).map SX.S := by rw [List.map_map]; rfl
  rw [e0, e1, SX.join_S]
  have e2 : ∀ cs : List Nat, TL.joinL [] (cs.map fun c => [c]) = cs := by
    intro cs
    induction cs with
    | nil => rfl
    | cons c cs ih =>
      cases cs with
      | nil => rfl
      | cons d cs =>
        show [c] ++ ([] ++ TL.joinL [] ((d :: cs).map fun c => [c])) = c :: d :: cs
        rw [ih]
        rfl
  rw [e2]
theorem lens1 (f : Nat → Nat) (l : List Nat) : (((l.map f).map fun c => (⟨#[c]⟩ : Str)).map (·.length)).sum = l.length := by
  induction l with
  | nil => rfl
  | cons c l ih =>
    simp only [List.map_cons, List.sum_cons, List.length_cons] at ih ⊢
    rw [ih]
    show 1 + l.length = l.length + 1
    omega
theorem let_at (u : Int) : ∃ c, atI letters.cps.toList (u % 26) = some c ∧ isLet c = true ∧ c = letters.cps.toList.getD (u % 26).toNat 0 := by
  have h1 := Int.emod_nonneg u (show (26 : Int) ≠ 0 by decide)
  have h2 := Int.emod_lt_of_pos u (show (0 : Int) < 26 by decide)
  obtain ⟨j, e⟩ : ∃ j : Nat, u % 26 = (j : Int) := ⟨(u % 26).toNat, by omega⟩
  have hj : j < letters.cps.toList.length := by
    have : letters.cps.toList.length = 26 := by decide +kernel
    omega
  refine ⟨letters.cps.toList[j], by rw [e]; exact atI_nat (List.getElem?_eq_getElem hj), decide_eq_true (List.getElem_mem _), ?_⟩
  rw [e]
  show _ = letters.cps.toList.getD j 0
  rw [List.getD_eq_getElem?_getD, List.getElem?_eq_getElem hj]
  rfl
theorem row_of {l : List Nat} (h1 : 1 ≤ l.length) (h2 : l.length ≤ 8) (h3 : ∀ c ∈ l, isLet c = true) : isRowS ⟨l.toArray⟩ = true := by
  have e : (⟨l.toArray⟩ : Str).length = l.length := List.size_toArray
  unfold isRowS
  rw [e, decide_eq_true h1, decide_eq_true h2]
  simp only [Bool.true_and]
  exact List.all_eq_true.mpr (by simpa using h3)
theorem row_ok {z : Str} (h : isRowS z = true) : Ok z := by
  unfold isRowS at h
  rw [Bool.and_eq_true, Bool.and_eq_true, decide_eq_true_eq, decide_eq_true_eq] at h
  refine ⟨by omega, ?_⟩
  rw [← Array.all_toList]
  refine List.all_eq_true.mpr fun c hc => ?_
  have := List.all_eq_true.mp h.2.2 c hc
  have hm : c ∈ letters.cps.toList := of_decide_eq_true this
  have : ∀ c ∈ letters.cps.toList, decide (c < 0x110000) = true := by decide +kernel
  exact this c hm
def letF (t : Int) (j : Nat) : Nat := letters.cps.toList.getD ((t + 5 * (j : Int) * (1 + t % 3)) % 26).toNat 0
def letV (t : Int) : V → V
  | .int j => .str ⟨#[letters.cps.toList.getD ((t + 5 * j * (1 + t % 3)) % 26).toNat 0]⟩
  | x => x
theorem lets (t : Int) (n : Nat) : ((LH.intsV 0 n).filter fun _ => true).map (letV t) = (((List.range n).map (letF t)).map fun c => (⟨#[c]⟩ : Str)).map V.str := by
  rw [List.filter_eq_self.mpr (fun _ _ => rfl)]
  unfold LH.intsV
  rw [List.map_map, List.map_map, List.map_map]
  refine List.map_congr_left fun i _ => ?_
  show V.str ⟨#[letters.cps.toList.getD ((t + 5 * (0 + (i : Int)) * (1 + t % 3)) % 26).toNat 0]⟩ = V.str ⟨#[letF t i]⟩
  rw [Int.zero_add]
  rfl
theorem let_letF (t : Int) (j : Nat) : isLet (letF t j) = true := by
  obtain ⟨c, _, h, e⟩ := let_at (t + 5 * (j : Int) * (1 + t % 3))
  unfold letF
  rw [← e]
  exact h
theorem four_at (i : Int) : ∃ z, atI [V.str "say", .str "mark", .str "by", .str "house"] (i % 4) = some (V.str z) ∧ isRowS z = true := by
  have h : i % 4 = 0 ∨ i % 4 = 1 ∨ i % 4 = 2 ∨ i % 4 = 3 := by omega
  rcases h with h | h | h | h <;> rw [h]
  · exact ⟨_, rfl, by decide +kernel⟩
  · exact ⟨_, rfl, by decide +kernel⟩
  · exact ⟨_, rfl, by decide +kernel⟩
  · exact ⟨_, rfl, by decide +kernel⟩
theorem kqxz_at (i : Int) : ∃ c, atI (Str.ofString "kqxz").cps.toList (i % 4) = some c ∧ isLet c = true := by
  have h : i % 4 = 0 ∨ i % 4 = 1 ∨ i % 4 = 2 ∨ i % 4 = 3 := by omega
  rcases h with h | h | h | h <;> rw [h]
  · exact ⟨107, by decide +kernel, by decide +kernel⟩
  · exact ⟨113, by decide +kernel, by decide +kernel⟩
  · exact ⟨120, by decide +kernel, by decide +kernel⟩
  · exact ⟨122, by decide +kernel, by decide +kernel⟩
theorem mod_at (x : Int) (n : Nat) : ∃ m : Nat, m ≤ n ∧ x.fmod ((n : Int) + 1) = (m : Int) := by
  rw [Int.fmod_eq_emod_of_nonneg _ (by omega)]
  have h1 := Int.emod_nonneg x (show (n : Int) + 1 ≠ 0 by omega)
  have h2 := Int.emod_lt_of_pos x (show (0 : Int) < (n : Int) + 1 by omega)
  exact ⟨(x % ((n : Int) + 1)).toNat, by omega, by omega⟩
abbrev wd (k : Str) (n : Int) (r : Str) (h : Int) : List V := [.str k, .int n, .str r, .int h]
theorem dstr {x y : Str} : decide (V.str x = V.str y) = decide (x = y) := by simp
theorem dint {x y : Int} : decide (V.int x = V.int y) = decide (x = y) := by simp
theorem str_data {H : Hp} : ∀ l : List Str, DpAll K H (l.map V.str) (l.map PyData.str)
  | [] => .nil
  | x :: l => .cons (.str x) (str_data l)
theorem lay_strs : ∀ {l : List Str}, (∀ x ∈ l, Ok x) → PyData.canLayAll0 (l.map PyData.str) = true
  | [], _ => rfl
  | x :: l, h => by
    show (PyData.canLay0 (.str x) && PyData.canLayAll0 (l.map PyData.str)) = true
    rw [lay_strs fun y hy => h y (List.mem_cons_of_mem _ hy)]
    have e : PyData.canLay0 (.str x) = true := by
      show (PyData.strOk x) = true
      exact (h x List.mem_cons_self).2
    rw [e]
    rfl
theorem shaped_strs {l : List Str} (h : ∀ x ∈ l, Ok x) : SeqAt.shaped (.list (l.map PyData.str)) = true := by
  have d : ∀ l : List Str, PyData.depthAll (l.map PyData.str) ≤ 2 := by
    intro l
    induction l with
    | nil => simp [PyData.depthAll]
    | cons x l ih => simp [PyData.depthAll, PyData.depth]; omega
  unfold SeqAt.shaped
  rw [Bool.and_eq_true]
  refine ⟨lay_strs h, decide_eq_true ?_⟩
  have := d l
  simp [PyData.depth]
  omega
/-- the signs that are no letters -/
def noLet (z : Str) : List Str := (z.cps.toList.filter fun c => !isLet c).map fun c => ⟨#[c]⟩
theorem signs_no (z : Str) : ((LH.signs z).filter fun x => !signV x).map id = (noLet z).map V.str := by
  unfold LH.signs noLet
  rw [List.map_id, List.filter_map, List.map_map]
  rfl
theorem no_ok {z : Str} (h : Ok z) : ∀ x ∈ noLet z, Ok x := fun x hx => by
  obtain ⟨c, hc, rfl⟩ := List.mem_map.mp hx
  have hm := (List.mem_filter.mp hc).1
  have h2 := h.2
  rw [← Array.all_toList] at h2
  have := List.all_eq_true.mp h2 c hm
  exact ⟨by show 1 ≤ 100000; decide, by simpa using this⟩
theorem no_eqv (z : Str) : PyData.eqv (.list ((noLet z).map PyData.str)) (.list []) = z.cps.toList.all isLet := by
  have e : ∀ l : List Nat, PyData.eqvAll (((l.filter fun c => !isLet c).map fun c => (⟨#[c]⟩ : Str)).map PyData.str) [] = l.all isLet := by
    intro l
    induction l with
    | nil => simp [PyData.eqvAll]
    | cons c l ih =>
      rw [List.all_cons, List.filter_cons]
      cases isLet c with
      | true => simpa using ih
      | false => simp [PyData.eqvAll]
  show PyData.eqvAll _ [] = _
  exact e _
/-- a thing that may stand in a word -/
def Gd (K : PySem.W.Frag) (H : Hp) (y : V) : Prop := Sm y ∧ ∃ T, TyB K H y T
theorem Gd.up {H H' : Hp} {y : V} (e : Same H H') (g : Gd K H y) : Gd K H' y := let ⟨s, T, h⟩ := g; ⟨s, T, LH.Same.ty e h⟩
theorem gd_int {H : Hp} (i : Int) : Gd K H (.int i) := ⟨fun z e => (by cases e), _, .int i⟩
theorem gd_str {H : Hp} {z : Str} (h : Ok z) : Gd K H (.str z) := ⟨fun z' e => (by cases e; exact h), _, .str z⟩
theorem gd_bl {H : Hp} (b : Bool) : Gd K H (.bl b) := ⟨fun z e => (by cases e), _, .bl b⟩
theorem gd_non {H : Hp} : Gd K H .non := ⟨fun z e => (by cases e), _, .non⟩
theorem gd_lst {H : Hp} {p : Addr} {xs : List V} (h : SqL K H p xs) : Gd K H (.ref p) := ⟨fun z e => (by cases e), _, .lst h⟩
theorem gd_tup {H : Hp} {p : Addr} {xs : List V} (h : SqT K H p xs) : Gd K H (.ref p) := ⟨fun z e => (by cases e), _, .tup h⟩
theorem gd_dK {H : Hp} {p : Addr} {kvs : List (Key × V)} (h : H p = some (.dK kvs)) : Gd K H (.ref p) := ⟨fun z e => (by cases e), _, .dK h⟩
theorem fmod_pos {n c : Int} (h : 1 ≤ c) : n.fmod c = n % c := Int.fmod_eq_emod_of_nonneg _ (by omega)
/-! ### the row that is told by two numbers -/
def kq (k : Int) : Nat := [107, 113, 120, 122].getD (k % 4).toNat 0
def word4 (k : Int) : Str := [("say" : Str), "mark", "by", "house"].getD (k % 4).toNat "say"
def tOf (b k : Int) : Int := b + 31 * k * (b % 2)
def nOf (b k : Int) : Nat := (tOf b k / 26 % 8).toNat
def atOf (b k : Int) : Nat := if b % 2 = 0 then ((b / 4).fmod ((nOf b k : Int) + 1)).toNat else nOf b k
def tailOf (b k : Int) : List Nat := (List.range (nOf b k)).map (letF (tOf b k))
def rowL (b k : Int) : List Nat := (tailOf b k).take (atOf b k) ++ [kq k] ++ (tailOf b k).drop (atOf b k)
def rowF (b k : Int) : Str := if b % 9 = 4 then word4 k else ⟨(rowL b k).toArray⟩
theorem word4_at (k : Int) : atI [V.str "say", .str "mark", .str "by", .str "house"] (k % 4) = some (V.str (word4 k)) ∧ isRowS (word4 k) = true := by
  have h : k % 4 = 0 ∨ k % 4 = 1 ∨ k % 4 = 2 ∨ k % 4 = 3 := by omega
  unfold word4
  rcases h with h | h | h | h <;> rw [h]
  all_goals exact ⟨rfl, by decide +kernel⟩
theorem kq_at (k : Int) : atI (Str.ofString "kqxz").cps.toList (k % 4) = some (kq k) ∧ isLet (kq k) = true := by
  have h : k % 4 = 0 ∨ k % 4 = 1 ∨ k % 4 = 2 ∨ k % 4 = 3 := by omega
  unfold kq
  rcases h with h | h | h | h <;> rw [h]
  all_goals exact ⟨by decide +kernel, by decide +kernel⟩
theorem nOf_lt (b k : Int) : nOf b k < 8 := by
  unfold nOf
  omega
theorem nOf_eq (b k : Int) : tOf b k / 26 % 8 = (nOf b k : Int) := by
  unfold nOf
  omega
theorem atOf_le (b k : Int) : atOf b k ≤ nOf b k := by
  unfold atOf
  split
  · obtain ⟨m, h, e⟩ := mod_at (b / 4) (nOf b k)
    rw [e]
    exact h
  · exact Nat.le_refl _
theorem tail_len (b k : Int) : (tailOf b k).length = nOf b k := by
  unfold tailOf
  rw [List.length_map, List.length_range]
theorem atOf_even {b k : Int} (h : b % 2 = 0) : (b / 4).fmod ((nOf b k : Int) + 1) = (atOf b k : Int) := by
  unfold atOf
  rw [if_pos h]
  obtain ⟨m, _, e⟩ := mod_at (b / 4) (nOf b k)
  rw [e]
  rfl
theorem atOf_odd {b k : Int} (h : ¬ b % 2 = 0) : atOf b k = nOf b k := by
  unfold atOf
  rw [if_neg h]
theorem rowF_cut {b k : Int} (h : ¬ b % 9 = 4) : cutS ⟨(tailOf b k).toArray⟩ none (some (atOf b k : Int)) ++ ⟨#[kq k]⟩ ++ cutS ⟨(tailOf b k).toArray⟩ (some (atOf b k : Int)) none = rowF b k := by
  rw [cut_lo, cut_hi]
  unfold rowF
  rw [if_neg h]
  show (⟨_ ++ _ ++ _⟩ : Str) = _
  simp [rowL]
theorem rowF_row (b k : Int) : isRowS (rowF b k) = true := by
  unfold rowF
  split
  · exact (word4_at k).2
  · have h1 := nOf_lt b k
    have h2 := atOf_le b k
    have h3 := tail_len b k
    refine row_of (by unfold rowL; simp; omega) (by unfold rowL; simp; omega) fun d hd => ?_
    unfold rowL at hd
    have lt : ∀ d ∈ tailOf b k, isLet d = true := fun d hd => by
      obtain ⟨j, _, rfl⟩ := List.mem_map.mp hd
      exact let_letF _ j
    rcases List.mem_append.mp hd with hd | hd
    · rcases List.mem_append.mp hd with hd | hd
      · exact lt d (List.mem_of_mem_take hd)
      · rw [List.mem_singleton.mp hd]
        exact (kq_at k).2
    · exact lt d (List.mem_of_mem_drop hd)
theorem rowF_ok (b k : Int) : Ok (rowF b k) := row_ok (rowF_row b k)
theorem toArr_ne {l m : List Nat} (h : l ≠ m) : (⟨l.toArray⟩ : Str) ≠ ⟨m.toArray⟩ := fun e => by
  have e2 : l.toArray = m.toArray := congrArg Str.cps e
  exact h (by simpa using congrArg Array.toList e2)
theorem kq_ne {j k : Int} (h : j % 4 ≠ k % 4) : kq j ≠ kq k := by
  have hj : j % 4 = 0 ∨ j % 4 = 1 ∨ j % 4 = 2 ∨ j % 4 = 3 := by omega
  have hk : k % 4 = 0 ∨ k % 4 = 1 ∨ k % 4 = 2 ∨ k % 4 = 3 := by omega
  unfold kq
  rcases hj with hj | hj | hj | hj <;> rcases hk with hk | hk | hk | hk <;> rw [hj, hk] at h ⊢
  all_goals first | (exact absurd rfl h) | decide
theorem word4_ne {j k : Int} (h : j % 4 ≠ k % 4) : word4 j ≠ word4 k := by
  have hj : j % 4 = 0 ∨ j % 4 = 1 ∨ j % 4 = 2 ∨ j % 4 = 3 := by omega
  have hk : k % 4 = 0 ∨ k % 4 = 1 ∨ k % 4 = 2 ∨ k % 4 = 3 := by omega
  unfold word4
  rcases hj with hj | hj | hj | hj <;> rcases hk with hk | hk | hk | hk <;> rw [hj, hk] at h ⊢
  all_goals first | (exact absurd rfl h) | decide +kernel
/-- rows of unlike letters differ -/
theorem rowF_ne {b j k : Int} (h : j % 4 ≠ k % 4) : rowF b j ≠ rowF b k := by
  unfold rowF
  by_cases c : b % 9 = 4
  · rw [if_pos c, if_pos c]
    exact word4_ne h
  · rw [if_neg c, if_neg c]
    refine toArr_ne fun e => kq_ne h ?_
    by_cases c2 : b % 2 = 0
    · have t : tOf b j = tOf b k := by unfold tOf; rw [c2]; omega
      have n : nOf b j = nOf b k := by unfold nOf; rw [t]
      have tl : tailOf b j = tailOf b k := by unfold tailOf; rw [t, n]
      have at_ : atOf b j = atOf b k := by unfold atOf; rw [n]
      unfold rowL at e
      rw [tl, at_, List.append_assoc, List.append_assoc] at e
      have e := List.append_cancel_left e
      simp only [List.singleton_append, List.cons.injEq] at e
      exact e.1
    · have l : ∀ m : Int, (rowL b m).getLast? = some (kq m) := fun m => by
        unfold rowL
        have a : atOf b m = nOf b m := by unfold atOf; rw [if_neg c2]
        rw [a, List.drop_of_length_le (by rw [tail_len]; exact Nat.le_refl _), List.append_nil]
        simp
      have := congrArg List.getLast? e
      rw [l, l] at this
      injection this
/-! ### data -/
mutual
theorem dp_up {H H' : Hp} (e : Same H H') : ∀ {d : PyData} {x : V}, Dp K H x d → Dp K H' x d
  | _, _, .non => .non
  | _, _, .bl b => .bl b
  | _, _, .int i => .int i
  | _, _, .str x => .str x
  | _, _, .lst h r => .lst (Same.seq e h) (dpA_up e r)
  | _, _, .tup h r => .tup (LH.Same.seqT e h) (dpA_up e r)
theorem dpA_up {H H' : Hp} (e : Same H H') : ∀ {ds : List PyData} {xs : List V}, DpAll K H xs ds → DpAll K H' xs ds
  | _, _, .nil => .nil
  | _, _, .cons h r => .cons (dp_up e h) (dpA_up e r)
end
/-- data that may be compared: d levels deep at the most -/
structure Lay (n : Nat) (d : PyData) : Prop where
  lay : PyData.canLay0 d = true
  dep : PyData.depth d ≤ n
theorem Lay.mono {n m : Nat} {d : PyData} (h : n ≤ m) (l : Lay n d) : Lay m d := ⟨l.lay, Nat.le_trans l.dep h⟩
theorem lay_int {n : Nat} (i : Int) (h : 1 ≤ n := by omega) : Lay n (.int i) := ⟨rfl, by simp [PyData.depth]; try omega⟩
theorem lay_non {n : Nat} (h : 1 ≤ n := by omega) : Lay n .none := ⟨rfl, by simp [PyData.depth]; try omega⟩
theorem lay_str {n : Nat} {z : Str} (o : Ok z) (h : 1 ≤ n := by omega) : Lay n (.str z) := ⟨o.2, by simp [PyData.depth]; try omega⟩
theorem lay_all {n : Nat} : ∀ {ds : List PyData}, (∀ d ∈ ds, Lay n d) → PyData.canLayAll0 ds = true ∧ PyData.depthAll ds ≤ n
  | [], _ => ⟨rfl, by simp [PyData.depthAll]⟩
  | d :: ds, h => by
    have ⟨h1, h2⟩ := h d List.mem_cons_self
    obtain ⟨g1, g2⟩ := lay_all fun e m => h e (List.mem_cons_of_mem _ m)
    exact ⟨by show (PyData.canLay0 d && PyData.canLayAll0 ds) = true; rw [h1, g1]; rfl, by simp only [PyData.depthAll]; omega⟩
theorem lay_list {n : Nat} {ds : List PyData} (h : ∀ d ∈ ds, Lay n d) : Lay (n + 1) (.list ds) := by
  obtain ⟨h1, h2⟩ := lay_all h
  exact ⟨h1, by simp only [PyData.depth]; omega⟩
theorem lay_tup {n : Nat} {ds : List PyData} (h : ∀ d ∈ ds, Lay n d) : Lay (n + 1) (.tuple ds) := by
  obtain ⟨h1, h2⟩ := lay_all h
  exact ⟨h1, by simp only [PyData.depth]; omega⟩
theorem Lay.shaped {n : Nat} {d : PyData} (l : Lay n d) (h : n ≤ 30 := by omega) : SeqAt.shaped d = true := by
  unfold SeqAt.shaped
  rw [Bool.and_eq_true]
  refine ⟨l.lay, decide_eq_true ?_⟩
  have := l.dep
  omega
theorem Lay.refl {n : Nat} {d : PyData} (l : Lay n d) : PyData.eqv d d = true := SeqAt.eqv_refl _ l.lay
end LM
namespace LM
open PySem L2
/-! ### words -/
structure Wrd where
  k : Str
  n : Int
  r : Str
  h : Int
deriving DecidableEq
def Wrd.vs (w : Wrd) : List V := wd w.k w.n w.r w.h
/-- what it has in common with an unlike one -/
def Wrd.pl (w : Wrd) : List Key := [.inr w.k, .inl w.n, .inl w.h]
def Wrd.dat (w : Wrd) : PyData := .tuple [.str w.k, .int w.n, .str w.r, .int w.h]
def unl (w u : Wrd) : Bool := decide (u.pl = w.pl) && decide (u.r ≠ w.r)
theorem pl_eq {w u : Wrd} : u.pl = w.pl ↔ u.k = w.k ∧ u.n = w.n ∧ u.h = w.h := by
  unfold Wrd.pl
  constructor
  · intro e
    injection e with e1 e
    injection e with e2 e
    injection e with e3 e
    exact ⟨Sum.inr.inj e1, Sum.inl.inj e2, Sum.inl.inj e3⟩
  · rintro ⟨h1, h2, h3⟩
    rw [h1, h2, h3]
theorem pl_vs (w : Wrd) : w.pl.map kV = [.str w.k, .int w.n, .int w.h] := rfl
/-- a word's texts are texts -/
def Wrd.Ok (w : Wrd) : Prop := LM.Ok w.k ∧ LM.Ok w.r
theorem Wrd.lay {w : Wrd} (o : w.Ok) : Lay 2 w.dat := lay_tup fun d hd => by
  simp only [List.mem_cons, List.not_mem_nil, or_false] at hd
  rcases hd with rfl | rfl | rfl | rfl
  · exact lay_str o.1
  · exact lay_int _
  · exact lay_str o.2
  · exact lay_int _
section
variable {K : PySem.W.Frag}
def WV (K : PySem.W.Frag) (H : Hp) (x : V) (w : Wrd) : Prop := ∃ p, x = .ref p ∧ SqT K H p w.vs
theorem WV.up {H H' : Hp} {x : V} {w : Wrd} (e : Same H H') (h : WV K H x w) : WV K H' x w := let ⟨p, e1, h1⟩ := h; ⟨p, e1, LH.Same.seqT e h1⟩
theorem WV.dp {H : Hp} {x : V} {w : Wrd} (h : WV K H x w) : Dp K H x w.dat := by
  obtain ⟨p, rfl, h⟩ := h
  exact .tup h (.cons (.str _) (.cons (.int _) (.cons (.str _) (.cons (.int _) .nil))))
/-- pairs of a value and its word -/
def WP (K : PySem.W.Frag) (H : Hp) (l : List (V × Wrd)) : Prop := ∀ p ∈ l, WV K H p.1 p.2
theorem WP.up {H H' : Hp} {l : List (V × Wrd)} (e : Same H H') (h : WP K H l) : WP K H' l := fun p hp => (h p hp).up e
theorem WP.dpA {H : Hp} : ∀ {l : List (V × Wrd)}, WP K H l → DpAll K H (l.map (·.1)) (l.map fun p => p.2.dat)
  | [], _ => .nil
  | p :: l, h => .cons (h p List.mem_cons_self).dp (WP.dpA fun q hq => h q (List.mem_cons_of_mem _ hq))
end
end LM
namespace LM
open PySem L2
/-! ### who is to blame -/
abbrev VW := V × Wrd
/-- of those at a place, in order -/
def atPl (l : List VW) (k : List Key) : List VW := l.filter fun p => decide (p.2.pl = k)
/-- the first of l1 by house h that has an unlike one in l2, with the first such -/
def firstP (l1 l2 : List VW) (h : Int) : Option (VW × VW) := l1.findSome? fun p => if p.2.h = h then (l2.find? fun q => unl p.2 q.2).map fun q => (p, q) else none
theorem firstP_snoc (l1 l2 : List VW) (p : VW) (h : Int) : firstP (l1 ++ [p]) l2 h = (firstP l1 l2 h).or (if p.2.h = h then (l2.find? fun q => unl p.2 q.2).map fun q => (p, q) else none) := by
  unfold firstP
  rw [List.findSome?_append]
  simp
theorem firstP_some {l1 l2 : List VW} {h : Int} {p q : VW} (e : firstP l1 l2 h = some (p, q)) : p ∈ l1 ∧ q ∈ l2 ∧ p.2.h = h ∧ unl p.2 q.2 = true := by
  unfold firstP at e
  obtain ⟨x, hx, e⟩ := List.exists_of_findSome?_eq_some e
  by_cases c : x.2.h = h
  · rw [if_pos c] at e
    obtain ⟨y, hy, e⟩ := Option.map_eq_some_iff.mp e
    injection e with e1 e2
    subst e1 e2
    exact ⟨hx, List.mem_of_find?_eq_some hy, c, by simpa using List.find?_some hy⟩
  · rw [if_neg c] at e
    cases e
/-- those houses of 0 .. c - 1, rising -/
def blamedL (l1 l2 : List VW) (c : Nat) : List (Int × VW × VW) := (List.range c).filterMap fun (h : Nat) => (firstP l1 l2 h).map fun x => ((h : Int), x)
def bdat (x : Int × VW × VW) : PyData := .tuple [.int x.1, x.2.1.2.dat, x.2.2.2.dat]
/-- rising lists without repeats of the same members are one -/
theorem rise_eq : ∀ {l m : List Int}, l.Pairwise (· ≤ ·) → m.Pairwise (· ≤ ·) → l.Nodup → m.Nodup → (∀ x, x ∈ l ↔ x ∈ m) → l = m := by
  intro l m h1 h2 h3 h4 h5
  have p : l.Perm m := (List.perm_ext_iff_of_nodup h3 h4).mpr h5
  exact List.Perm.eq_of_pairwise (fun a b _ _ hab hba => Int.le_antisymm hab hba) h1 h2 p
end LM
namespace LM
open PySem L2
theorem unl_filter (w : Wrd) : ∀ l2 : List VW, ((atPl l2 w.pl).map fun u => if decide (u.2.r = w.r) = false then some u.1 else none).filterMap id = (l2.filter fun u => unl w u.2).map (·.1)
  | [] => rfl
  | u :: l2 => by
    have ih := unl_filter w l2
    unfold atPl at ih ⊢
    by_cases c : u.2.pl = w.pl
    · rw [List.filter_cons_of_pos (by simpa using c), List.map_cons]
      by_cases d : u.2.r = w.r
      · have e : unl w u.2 = false := by unfold unl; simp [d]
        rw [List.filter_cons_of_neg (by rw [e]; exact Bool.false_ne_true), ← ih]
        simp [d]
      · have e : unl w u.2 = true := by unfold unl; simp [c, d]
        rw [List.filter_cons_of_pos (p := fun u : VW => unl w u.2) e, List.map_cons, ← ih]
        simp [d]
    · have e : unl w u.2 = false := by unfold unl; simp [c]
      rw [List.filter_cons_of_neg (by simpa using c), List.filter_cons_of_neg (by rw [e]; exact Bool.false_ne_true), ih]
theorem find_filter {α : Type} (p : α → Bool) (l : List α) : l.find? p = (l.filter p).head? := by
  rw [List.head?_filter]
theorem paired_blamed {l1 l2 : List VW} {F : Int × VW × VW → V → Prop} (g : Int → V) : ∀ R : List Nat, (∀ h ∈ R, ∀ x, firstP l1 l2 (h : Int) = some x → F ((h : Int), x) (g h)) →
    Paired F (R.filterMap fun (h : Nat) => (firstP l1 l2 h).map fun x => ((h : Int), x)) ((R.filter fun (h : Nat) => (firstP l1 l2 h).isSome).map fun (h : Nat) => g h)
  | [], _ => .nil
  | h :: R, H => by
    have ih := paired_blamed g R fun j hj => H j (List.mem_cons_of_mem _ hj)
    cases e : firstP l1 l2 (h : Int) with
    | none => simpa [e] using ih
    | some x =>
      have := H h List.mem_cons_self x e
      simpa [e] using Paired.cons this ih
theorem nodup_le : ∀ (c : Nat) (l : List Int), l.Nodup → (∀ x ∈ l, 0 ≤ x ∧ x < c) → l.length ≤ c := by
  intro c l nd h
  have s : l ⊆ (List.range c).map fun (i : Nat) => (i : Int) := fun x hx => by
    obtain ⟨h1, h2⟩ := h x hx
    exact List.mem_map.mpr ⟨x.toNat, List.mem_range.mpr (by omega), by omega⟩
  have := nd.length_le_of_subset s
  rw [List.length_map, List.length_range] at this
  exact this
end LM
namespace LM
def en (c : Int) : Int := (c + (c - 1) / 3) / 2 + 1
end LM
namespace LM
open PySem L2
/-- how a blame is told -/
def Bt (H : Hp) (x : Int × VW × VW) (y : V) : Prop := ∃ t, y = .ref t ∧ H t = some (.tup [.int x.1, x.2.1.1, x.2.2.1])
theorem Bt.up {H H' : Hp} {x : Int × VW × VW} {y : V} (e : Same H H') (h : Bt H x y) : Bt H' x y := let ⟨t, h1, h2⟩ := h; ⟨t, h1, e _ _ h2⟩
theorem Bt.kp {H H' : Hp} {a : Addr} {xs : List V} {x : Int × VW × VW} {y : V} (g : H a = some (.lst xs)) (k : LH.Kp a H H') (h : Bt H x y) : Bt H' x y := by
  obtain ⟨t, h1, h2⟩ := h
  exact ⟨t, h1, k _ _ h2 fun e => by rw [e, g] at h2; cases h2⟩
def opt1 {α β : Type} (f : α → β) : Option α → List β
  | none => []
  | some x => [f x]
theorem blamedL_succ (l1 l2 : List VW) (h : Nat) : blamedL l1 l2 (h + 1) = blamedL l1 l2 h ++ opt1 (fun x => ((h : Int), x)) (firstP l1 l2 h) := by
  unfold blamedL
  rw [List.range_succ, List.filterMap_append]
  congr 1
  cases e : firstP l1 l2 (h : Int) <;> simp [e, opt1]
theorem blamedL_lt {l1 l2 : List VW} {h : Nat} {x : Int × VW × VW} (m : x ∈ blamedL l1 l2 h) : 0 ≤ x.1 ∧ x.1 < h ∧ firstP l1 l2 x.1 = some x.2 := by
  unfold blamedL at m
  obtain ⟨j, hj, e⟩ := List.mem_filterMap.mp m
  obtain ⟨y, ey, e⟩ := Option.map_eq_some_iff.mp e
  have := List.mem_range.mp hj
  subst e
  exact ⟨by show (0 : Int) ≤ j; omega, by show (j : Int) < h; omega, ey⟩
end LM
namespace LM
open PySem L2
theorem some_ints : ∀ l : List Int, (l.map fun h => some (V.int h)).filterMap id = l.map V.int
  | [] => rfl
  | h :: l => congrArg (fun z => V.int h :: z) (some_ints l)
theorem ints_flat {xs : List Int} : (xs.map V.int).all flatV = true := by
  rw [List.all_map]
  exact List.all_eq_true.mpr fun _ _ => rfl
theorem inV_int {z : Int} : ∀ {xs : List Int}, inV (.int z) (xs.map V.int) = decide (z ∈ xs)
  | [] => rfl
  | x :: xs => by
    have ih := @inV_int z xs
    unfold inV at ih ⊢
    rw [List.map_cons, List.any_cons, ih]
    have e : eqV (.int x) (.int z) = decide (z = x) := by
      show (x == z) = _
      by_cases c : z = x
      · subst c; simp
      · rw [decide_eq_false c]
        exact beq_eq_false_iff_ne.mpr fun q => c q.symm
    rw [e]
    by_cases c : z = x <;> simp [c]
theorem paired_at {α β : Type} {F : α → β → Prop} : ∀ {xs : List α} {ys : List β}, Paired F xs ys → ∀ {i : Nat} {x : α} {y : β}, xs[i]? = some x → ys[i]? = some y → F x y
  | _, _, .nil, _, _, _, h, _ => by cases h
  | _, _, .cons a _, 0, _, _, h1, h2 => by injection h1 with h1; injection h2 with h2; subst h1 h2; exact a
  | _, _, .cons _ r, i + 1, _, _, h1, h2 => paired_at r (i := i) (by simpa using h1) (by simpa using h2)
end LM
namespace LM
open PySem L2
theorem in_ex {α : Type} (p q : α → Bool) : ∀ l : List α, (l.filter p).length + (l.filter q).length ≤ l.length + (l.filter fun x => p x && q x).length
  | [] => Nat.le_refl _
  | x :: l => by
    have ih := in_ex p q l
    cases hp : p x <;> cases hq : q x <;> simp [hp, hq] <;> omega
theorem sub_range {hs : List Int} {c : Nat} (nd : hs.Nodup) (rg : ∀ h ∈ hs, 0 ≤ h ∧ h < c) : hs.length ≤ ((List.range c).filter fun (h : Nat) => decide ((h : Int) ∈ hs)).length := by
  have s : hs ⊆ ((List.range c).filter fun (h : Nat) => decide ((h : Int) ∈ hs)).map fun (h : Nat) => (h : Int) := fun x hx => by
    obtain ⟨h1, h2⟩ := rg x hx
    have e : ((x.toNat : Nat) : Int) = x := by omega
    exact List.mem_map.mpr ⟨x.toNat, List.mem_filter.mpr ⟨List.mem_range.mpr (by omega), decide_eq_true (by rw [e]; exact hx)⟩, e⟩
  have := nd.length_le_of_subset s
  rwa [List.length_map] at this
/-- two sets of houses share some -/
theorem shared_le {h1 h2 : List Int} {c : Nat} (n1 : h1.Nodup) (n2 : h2.Nodup) (r1 : ∀ h ∈ h1, 0 ≤ h ∧ h < c) (r2 : ∀ h ∈ h2, 0 ≤ h ∧ h < c) :
    h1.length + h2.length ≤ c + ((List.range c).filter fun (h : Nat) => decide ((h : Int) ∈ h1) && decide ((h : Int) ∈ h2)).length := by
  have a := in_ex (fun (h : Nat) => decide ((h : Int) ∈ h1)) (fun (h : Nat) => decide ((h : Int) ∈ h2)) (List.range c)
  have b1 := sub_range n1 r1
  have b2 := sub_range n2 r2
  rw [List.length_range] at a
  omega
theorem filterMap_len {α β : Type} (f : α → Option β) : ∀ l : List α, (l.filterMap f).length = (l.filter fun x => (f x).isSome).length
  | [] => rfl
  | x :: l => by
    have ih := filterMap_len f l
    cases e : f x <;> simp [e, ih]
/-- lists of words by what is told of each -/
theorem words_of {P : V → Wrd → Prop} : ∀ {ys : List V}, (∀ y ∈ ys, ∃ u, P y u) → ∃ l : List VW, l.map (·.1) = ys ∧ ∀ p ∈ l, P p.1 p.2
  | [], _ => ⟨[], rfl, fun _ h => by cases h⟩
  | y :: ys, h => by
    obtain ⟨u, hu⟩ := h y List.mem_cons_self
    obtain ⟨l, e, hl⟩ := words_of fun z hz => h z (List.mem_cons_of_mem _ hz)
    refine ⟨(y, u) :: l, by rw [← e]; rfl, fun p hp => ?_⟩
    rcases List.mem_cons.mp hp with rfl | hp
    · exact hu
    · exact hl p hp
theorem paired_right {α β : Type} {F : α → β → Prop} : ∀ {xs : List α} {ys : List β}, Paired F xs ys → ∀ y ∈ ys, ∃ x ∈ xs, F x y
  | _, _, .nil, _, h => by cases h
  | _, _, .cons (a := a) f r, y, h => by
    rcases List.mem_cons.mp h with rfl | h
    · exact ⟨a, List.mem_cons_self, f⟩
    · obtain ⟨x, hx, e⟩ := paired_right r y h
      exact ⟨x, List.mem_cons_of_mem _ hx, e⟩
/-- the marks of a row at a number by some houses -/
def marks (n : Int) (r : Str) (vs : List V) (hs : List Int) : List VW := (vs.zip hs).map fun p => (p.1, ⟨"mark", n, r, p.2⟩)
theorem marks_find {n : Int} {r r' : Str} (ne : r ≠ r') {vs1 vs2 : List V} {h1 h2 : List Int} (l1 : vs1.length = h1.length) (l2 : vs2.length = h2.length) (h : Int) :
    (firstP (marks n r vs1 h1) (marks n r' vs2 h2) h).isSome = (decide (h ∈ h1) && decide (h ∈ h2)) := by
  have mem : ∀ {vs : List V} {hs : List Int} {r : Str}, vs.length = hs.length → ∀ p, p ∈ marks n r vs hs → p.2.h ∈ hs ∧ p.2.r = r ∧ p.2.k = "mark" ∧ p.2.n = n := fun {vs hs r} _ p hp => by
    obtain ⟨z, hz, rfl⟩ := List.mem_map.mp hp
    exact ⟨(List.of_mem_zip hz).2, rfl, rfl, rfl⟩
  have ex : ∀ {vs : List V} {hs : List Int} {r : Str}, vs.length = hs.length → ∀ x ∈ hs, ∃ p ∈ marks n r vs hs, p.2.h = x := fun {vs hs r} e x hx => by
    obtain ⟨i, hi, rfl⟩ := List.mem_iff_getElem.mp hx
    have hz : (vs.zip hs)[i]? = some (vs[i]'(by omega), hs[i]) := by
      rw [List.getElem?_zip_eq_some]
      exact ⟨List.getElem?_eq_getElem _, List.getElem?_eq_getElem _⟩
    exact ⟨_, List.mem_map.mpr ⟨_, List.mem_of_getElem? hz, rfl⟩, rfl⟩
  cases e : firstP (marks n r vs1 h1) (marks n r' vs2 h2) h with
  | some x =>
    obtain ⟨a, b, c, d⟩ := firstP_some (p := x.1) (q := x.2) e
    have m1 := mem l1 _ a
    have m2 := mem l2 _ b
    unfold unl at d
    rw [Bool.and_eq_true, decide_eq_true_eq] at d
    have := (pl_eq.mp d.1).2.2
    have q1 : h ∈ h1 := c ▸ m1.1
    have q2 : h ∈ h2 := by rw [← c, ← this]; exact m2.1
    rw [decide_eq_true q1, decide_eq_true q2]
    rfl
  | none =>
    cases c1 : decide (h ∈ h1) with
    | false => rfl
    | true =>
      cases c2 : decide (h ∈ h2) with
      | false => rfl
      | true =>
        exfalso
        obtain ⟨p, hp, ep⟩ := ex (r := r) l1 h (of_decide_eq_true c1)
        obtain ⟨u, hu, eu⟩ := ex (r := r') l2 h (of_decide_eq_true c2)
        unfold firstP at e
        have := List.findSome?_eq_none_iff.mp e p hp
        rw [if_pos ep] at this
        have := Option.map_eq_none_iff.mp this
        have := List.find?_eq_none.mp this u hu
        refine this ?_
        obtain ⟨_, r1, k1, n1⟩ := mem l1 _ hp
        obtain ⟨_, r2, k2, n2⟩ := mem l2 _ hu
        unfold unl
        have ne' : u.2.r ≠ p.2.r := by rw [r1, r2]; exact fun q => ne q.symm
        rw [decide_eq_true (pl_eq.mpr ⟨by rw [k1, k2], by rw [n1, n2], by rw [ep, eu]⟩), decide_eq_true ne']
        rfl
end LM
namespace LM
open PySem L2
/-- a word's own tuple -/
def WT (H : Hp) (x : V) (w : Wrd) : Prop := ∃ p, x = .ref p ∧ H p = some (.tup w.vs)
theorem WT.up {H H' : Hp} {x : V} {w : Wrd} (e : Same H H') (h : WT H x w) : WT H' x w := let ⟨p, e1, h1⟩ := h; ⟨p, e1, e _ _ h1⟩
theorem WT.wv {K : PySem.W.Frag} {H : Hp} {x : V} {w : Wrd} (h : WT H x w) : WV K H x w := let ⟨p, e1, h1⟩ := h; ⟨p, e1, SqT.of h1⟩
theorem WT.dp {K : PySem.W.Frag} {H : Hp} {x : V} {w : Wrd} (h : WT H x w) : Dp K H x w.dat := h.wv.dp
end LM
/-! readings by name: truth of a list, xs[::-1], sorted(d), a dict's keys as a list -/
namespace LH
open PySem L2
section
variable {K : PySem.W.Frag} {σ : L2.St} {H : Hp} {Q : VK} {te : TE} {x y z : V} {a : Addr}
def TruW (K : PySem.W.Frag) (x : V) (H : Hp) (Q : Bool → Hp → Prop) : Prop := ∃ k, TruV K x H k ∧ Q k H
def tTru (K : PySem.W.Frag) (te : TE) : TT := fun σ H Q => te σ H fun x H1 => TruW K x H1 Q
theorem pt_truthN {X : Cx} {e : Expr} {te : TE} (h : PE X e te) (he : ∀ whole, isTrue e X.env whole = (do let v ← whole; standAt e.pos; holding [v] (truthy v))) : PT X e (tTru X.K te) := pt_truth h he
theorem x_tru {Q : Bool → Hp → Prop} (h : te σ H fun x H1 => TruW K x H1 Q) : tTru K te σ H Q := h
theorem tru_l {Q : Bool → Hp → Prop} {xs : List V} (h : SqL K H a xs) (q : Q (!xs.isEmpty) H) : TruW K (.ref a) H Q := ⟨_, .inl ⟨xs, h, rfl⟩, q⟩
def RvV (K : PySem.W.Frag) (x : V) (H1 : Hp) (Q : VK) : Prop := ∃ a xs, x = .ref a ∧ SqL K H1 a xs ∧ ∀ p, H1 p = none → Q (.ref p) (upd H1 p (.lst xs.reverse))
theorem x_revL (h : te σ H fun x H1 => RvV K x H1 Q) : tRevL K te σ H Q := h
theorem rvv {xs : List V} (h : SqL K H a xs) (k : ∀ p H2, H p = none → L2.Same H H2 → H2 p = some (.lst xs.reverse) → Q (.ref p) H2) : RvV K (.ref a) H Q := ⟨a, xs, rfl, h, fun p hp => k p _ hp (LH.Same.new hp) upd_same⟩
/-- sorted(d), the keys ints -/
def rSrtD : List V → Hp → VK → Prop := fun xs H Q => ∃ (a : Addr) (kvs : List (Key × V)) (ks : List Int), xs = [.ref a] ∧ Rd H a (.dK kvs) ∧ kvs.map (·.1) = ks.map Sum.inl ∧ ks.length < 64 ∧
  ∀ (ys : List Int) (p : Addr), ys.Perm ks → ys.Pairwise (· ≤ ·) → H p = none → Q (.ref p) (upd H p (.lst (ys.map V.int)))
theorem call_srtD {X : Cx} (hc : X.calm = true) : CallR X (.builtin "sorted") rSrtD := call_sortedDI hc
theorem x_srtD {kvs : List (Key × V)} {ks : List Int} (h : H a = some (.dK kvs)) (e : kvs.map (·.1) = ks.map Sum.inl) (l : ks.length < 64)
    (k : ∀ (ys : List Int) p H2, ys.Perm ks → ys.Pairwise (· ≤ ·) → H p = none → L2.Same H H2 → H2 p = some (.lst (ys.map V.int)) → Q (.ref p) H2) : rSrtD [.ref a] H Q :=
  ⟨a, kvs, ks, rfl, .inl h, e, l, fun ys p h1 h2 hp => k ys p _ h1 h2 hp (LH.Same.new hp) upd_same⟩
/-- len(d) -/
def rLenDk : List V → Hp → VK → Prop := fun xs H Q => ∃ (a : Addr) (kvs : List (Key × V)), xs = [.ref a] ∧ H a = some (.dK kvs) ∧ Q (.int kvs.length) H
theorem call_lenDk {X : Cx} : CallR X (.builtin "len") rLenDk := call_lenD
theorem x_lenDk {kvs : List (Key × V)} (h : H a = some (.dK kvs)) (q : Q (.int kvs.length) H) : rLenDk [.ref a] H Q := ⟨a, kvs, rfl, h, q⟩
/-- list(d), the keys tuples -/
def rKeysT : List V → Hp → VK → Prop := fun xs H Q => ∃ d kvs, xs = [V.ref d] ∧ Rd H d (.dT kvs) ∧ ∀ p bs, H p = none → IsKeys H kvs bs → Q (.ref p) (upd H p (.lst (bs.map V.ref)))
theorem call_keysT {X : Cx} (hc : X.calm = true) : CallR X (.type "list") rKeysT := call_list_dT hc
theorem x_keysT {kvs : List (List Key × V)} (h : H a = some (.dT kvs)) (k : ∀ p H2 bs, H p = none → L2.Same H H2 → H2 p = some (.lst (bs.map V.ref)) → Paired (fun (e : List Key × V) (b : Addr) => H b = some (.tup (e.1.map kV))) kvs bs → Q (.ref p) H2) : rKeysT [.ref a] H Q :=
  ⟨a, kvs, rfl, .inl h, fun p bs hp hb => k p _ bs hp (LH.Same.new hp) upd_same hb⟩
end
end LH
/-! an honest house: its going as plain mathematics, and how it stands in a heap -/
namespace HM
open PySem L2 LM
/-! ### the going -/
structure HS where
  c : Int
  own : Int
  due : Int
  known : List Wrd
  marked : List Int
  rows : List (Int × Str)
  backs : List (Int × List Wrd)
  named : List (Int × Wrd × Wrd)
def HS.new (c own : Int) : HS := ⟨c, own, own, [], [], [], [], []⟩
/-- a word as a key -/
def ky (w : Wrd) : List Key := [.inr w.k, .inl w.n, .inr w.r, .inl w.h]
theorem ky_inj {w u : Wrd} (e : ky w = ky u) : w = u := by
  unfold ky at e
  injection e with e1 e
  injection e with e2 e
  injection e with e3 e
  injection e with e4 e
  cases w; cases u
  simp only at e1 e2 e3 e4
  rw [Sum.inr.inj e1, Sum.inl.inj e2, Sum.inr.inj e3, Sum.inl.inj e4]
theorem ky_vs (w : Wrd) : (ky w).map kV = w.vs := rfl
/-- number and row as a key -/
def nr (w : Wrd) : List Key := [.inl w.n, .inr w.r]
theorem nr_eq {w u : Wrd} : nr w = nr u ↔ w.n = u.n ∧ w.r = u.r := by
  unfold nr
  constructor
  · intro e
    injection e with e1 e
    injection e with e2 e
    exact ⟨Sum.inl.inj e1, Sum.inr.inj e2⟩
  · rintro ⟨h1, h2⟩
    rw [h1, h2]
def isM (k : List Key) (w : Wrd) : Bool := decide (w.k = "mark") && decide (nr w = k)
def marksOf (l : List Wrd) (k : List Key) : List Wrd := l.filter (isM k)
def learn (l : List Wrd) (w : Wrd) : List Wrd := if w ∈ l then l else l ++ [w]
def markOf (own : Int) (w : Wrd) : Wrd := ⟨"mark", w.n, w.r, own⟩
def HS.learn (st : HS) (w : Wrd) : HS := { st with known := HM.learn st.known w }
def HS.marks (st : HS) (w : Wrd) : Bool := decide (w.k = "say") && !decide (w.n ∈ st.marked)
def HS.mark (st : HS) (w : Wrd) : HS := if st.marks w then { st.learn (markOf st.own w) with marked := st.marked ++ [w.n] } else st
def HS.markT (st : HS) (w : Wrd) : List Wrd := if st.marks w then [markOf st.own w] else []
/-- rising by houses -/
def rise (c : Int) (l : List Wrd) : List Wrd := (List.range c.toNat).filterMap fun (h : Nat) => l.find? fun w => decide (w.h = h)
def HS.writes (st : HS) (w : Wrd) : Bool := !decide (w.n ∈ st.rows.map (·.1)) && decide (en st.c ≤ (marksOf st.known (nr w)).length)
def HS.backT (st : HS) (w : Wrd) : List Wrd := if st.writes w then rise st.c (marksOf st.known (nr w)) else []
def HS.write (st : HS) (w : Wrd) : HS := if st.writes w then { st with rows := st.rows ++ [(w.n, w.r)], backs := st.backs ++ [(w.n, rise st.c (marksOf st.known (nr w)))] } else st
/-- the first known at a word's place -/
def HS.first (st : HS) (w : Wrd) : Wrd := (st.known.find? fun u => decide (u.pl = w.pl)).getD w
def HS.names (st : HS) (w : Wrd) : Bool := !decide (st.first w = w) && !decide (w.h ∈ st.named.map (·.1))
def HS.nameT (st : HS) (w : Wrd) : List Wrd := if st.names w then [st.first w, w] else []
def HS.name (st : HS) (w : Wrd) : HS := if st.names w then { st with named := st.named ++ [(w.h, st.first w, w)] } else st
def HS.hear (st : HS) (w : Wrd) : HS := if w ∈ st.known then st else (((st.learn w).mark w).write w).name w
def HS.hearT (st : HS) (w : Wrd) : List Wrd := if w ∈ st.known then [] else (st.learn w).markT w ++ ((st.learn w).mark w).backT w ++ (((st.learn w).mark w).write w).nameT w
def sayOf (st : HS) (r : Str) : Wrd := ⟨"say", st.due, r, st.own⟩
def HS.call (st : HS) (r : Str) : HS := ({ st with due := st.due + st.c } : HS).hear (sayOf st r)
def HS.callT (st : HS) (r : Str) : List Wrd := sayOf st r :: ({ st with due := st.due + st.c } : HS).hearT (sayOf st r)
/-! ### in a heap -/
structure HA where
  p : Addr
  kn : Addr
  ea : Addr
  ma : Addr
  ms : Addr
  ro : Addr
  ba : Addr
  nm : Addr
  ins : List (List Key × Addr)
def HA.S (a : HA) : List Addr := a.p :: a.kn :: a.ea :: a.ma :: a.ms :: a.ro :: a.ba :: a.nm :: a.ins.map (·.2)
def hf (a : HA) (c own due : Int) : List (Str × V) := [("_count", .int c), ("_own", .int own), ("_due", .int due), ("_known", .ref a.kn), ("_earliest", .ref a.ea), ("_marked", .ref a.ma), ("_marks", .ref a.ms), ("_rows", .ref a.ro), ("_backings", .ref a.ba), ("_named", .ref a.nm)]
section
variable {C : Addr} {F H H' : Hp} {a : HA} {st : HS}
def PKn (H : Hp) (d : Addr) (l : List Wrd) : Prop := ∃ kvs : List (List Key × V), H d = some (.dT kvs) ∧ kvs.length ≤ l.length ∧ ∀ k, (valV kvs k).isSome = true ↔ ∃ w ∈ l, ky w = k
def PEa (F H : Hp) (d : Addr) (l : List Wrd) : Prop := ∃ kvs : List (List Key × V), H d = some (.dT kvs) ∧ kvs.length ≤ l.length ∧
  ∀ k, ((l.find? fun u => decide (u.pl = k)) = none → valV kvs k = none) ∧ ∀ w, (l.find? fun u => decide (u.pl = k)) = some w → ∃ x, valV kvs k = some x ∧ WT F x w
def PMa (H : Hp) (d : Addr) (l : List Int) : Prop := ∃ kvs : List (Key × V), H d = some (.dK kvs) ∧ kvs.length ≤ l.length ∧ ∀ n : Int, (valV kvs (Sum.inl n)).isSome = true ↔ n ∈ l
/-- the marks of one row at one number, by houses -/
def PIn (F H : Hp) (d : Addr) (l : List Wrd) : Prop := ∃ kvs : List (Key × V), H d = some (.dK kvs) ∧ kvs.map (·.1) = l.map (fun w => Sum.inl w.h) ∧ ∀ w ∈ l, ∃ x, valV kvs (Sum.inl w.h) = some x ∧ WT F x w
structure PMs (F H : Hp) (d : Addr) (ins : List (List Key × Addr)) (l : List Wrd) : Prop where
  dt : H d = some (.dT (ins.map fun e => (e.1, V.ref e.2)))
  nd : (ins.map (·.1)).Nodup
  inn : ∀ e ∈ ins, PIn F H e.2 (marksOf l e.1)
  all : ∀ k, marksOf l k ≠ [] ↔ k ∈ ins.map (·.1)
def PRo (H : Hp) (d : Addr) (l : List (Int × Str)) : Prop := H d = some (.dK (l.map fun e => (Sum.inl e.1, V.str e.2)))
def Bk (F : Hp) (x : V) (ws : List Wrd) : Prop := ∃ b xs, x = .ref b ∧ F b = some (.lst xs) ∧ Paired (fun x w => WT F x w) xs ws
def PBa (F H : Hp) (d : Addr) (l : List (Int × List Wrd)) : Prop := ∃ kvs : List (Key × V), H d = some (.dK kvs) ∧ Paired (fun (e : Key × V) (x : Int × List Wrd) => e.1 = Sum.inl x.1 ∧ Bk F e.2 x.2) kvs l
def Nm (F : Hp) (x : V) (z : Int × Wrd × Wrd) : Prop := ∃ t v1 v2, x = .ref t ∧ F t = some (.tup [.int z.1, v1, v2]) ∧ WT F v1 z.2.1 ∧ WT F v2 z.2.2
def PNm (F H : Hp) (d : Addr) (l : List (Int × Wrd × Wrd)) : Prop := ∃ kvs : List (Key × V), H d = some (.dK kvs) ∧ Paired (fun (e : Key × V) (x : Int × Wrd × Wrd) => e.1 = Sum.inl x.1 ∧ Nm F e.2 x) kvs l
theorem Bk.up {F F' : Hp} {x : V} {ws : List Wrd} (e : Same F F') (h : Bk F x ws) : Bk F' x ws := let ⟨b, xs, h1, h2, h3⟩ := h; ⟨b, xs, h1, e _ _ h2, LH.Paired.imp (fun _ _ q => q.up e) h3⟩
theorem Nm.up {F F' : Hp} {x : V} {z : Int × Wrd × Wrd} (e : Same F F') (h : Nm F x z) : Nm F' x z := let ⟨t, v1, v2, h1, h2, h3, h4⟩ := h; ⟨t, v1, v2, h1, e _ _ h2, h3.up e, h4.up e⟩
theorem PKn.to {d : Addr} {l : List Wrd} (h : PKn H d l) (e : ∀ o, H d = some o → H' d = some o) : PKn H' d l := let ⟨k, h1, h2⟩ := h; ⟨k, e _ h1, h2⟩
theorem PEa.to {F' : Hp} {d : Addr} {l : List Wrd} (h : PEa F H d l) (f : Same F F') (e : ∀ o, H d = some o → H' d = some o) : PEa F' H' d l :=
  let ⟨k, h1, h2, h3⟩ := h; ⟨k, e _ h1, h2, fun j => ⟨(h3 j).1, fun w q => let ⟨x, a, b⟩ := (h3 j).2 w q; ⟨x, a, b.up f⟩⟩⟩
theorem PMa.to {d : Addr} {l : List Int} (h : PMa H d l) (e : ∀ o, H d = some o → H' d = some o) : PMa H' d l := let ⟨k, h1, h2⟩ := h; ⟨k, e _ h1, h2⟩
theorem PIn.to {F' : Hp} {d : Addr} {l : List Wrd} (h : PIn F H d l) (f : Same F F') (e : ∀ o, H d = some o → H' d = some o) : PIn F' H' d l :=
  let ⟨k, h1, h2, h3⟩ := h; ⟨k, e _ h1, h2, fun w q => let ⟨x, a, b⟩ := h3 w q; ⟨x, a, b.up f⟩⟩
theorem PMs.to {F' : Hp} {d : Addr} {ins : List (List Key × Addr)} {l : List Wrd} (h : PMs F H d ins l) (f : Same F F') (e : ∀ b o, b = d ∨ b ∈ ins.map (·.2) → H b = some o → H' b = some o) : PMs F' H' d ins l :=
  ⟨e _ _ (.inl rfl) h.dt, h.nd, fun i hi => (h.inn i hi).to f fun o => e _ o (.inr (List.mem_map.mpr ⟨i, hi, rfl⟩)), h.all⟩
theorem PRo.to {d : Addr} {l : List (Int × Str)} (h : PRo H d l) (e : ∀ o, H d = some o → H' d = some o) : PRo H' d l := e _ h
theorem PBa.to {F' : Hp} {d : Addr} {l : List (Int × List Wrd)} (h : PBa F H d l) (f : Same F F') (e : ∀ o, H d = some o → H' d = some o) : PBa F' H' d l :=
  let ⟨k, h1, h2⟩ := h; ⟨k, e _ h1, LH.Paired.imp (fun _ _ q => ⟨q.1, q.2.up f⟩) h2⟩
theorem PNm.to {F' : Hp} {d : Addr} {l : List (Int × Wrd × Wrd)} (h : PNm F H d l) (f : Same F F') (e : ∀ o, H d = some o → H' d = some o) : PNm F' H' d l :=
  let ⟨k, h1, h2⟩ := h; ⟨k, e _ h1, LH.Paired.imp (fun _ _ q => ⟨q.1, q.2.up f⟩) h2⟩
/-- what is so of a house's own words -/
structure Good (st : HS) : Prop where
  c1 : 1 ≤ st.c
  c2 : st.c ≤ 12
  o1 : 0 ≤ st.own
  o2 : st.own < st.c
  nd : st.known.Nodup
  wd : ∀ w ∈ st.known, w.Ok ∧ 0 ≤ w.h ∧ w.h < st.c
  mn : st.marked.Nodup
  rn : (st.rows.map (·.1)).Nodup
  bn : st.backs.map (·.1) = st.rows.map (·.1)
  nn : (st.named.map (·.1)).Nodup
  rk : ∀ e ∈ st.rows, LM.Ok e.2
  bk : ∀ e ∈ st.backs, ∀ w ∈ e.2, w ∈ st.known
  nk : ∀ z ∈ st.named, z.2.1 ∈ st.known ∧ z.2.2 ∈ st.known
theorem Good.new {c own : Int} (c1 : 1 ≤ c) (c2 : c ≤ 12) (o1 : 0 ≤ own) (o2 : own < c) : Good (HS.new c own) :=
  ⟨c1, c2, o1, o2, List.nodup_nil, (fun _ h => by cases h), List.nodup_nil, List.nodup_nil, rfl, List.nodup_nil, (fun _ h => by cases h), (fun _ h => by cases h), (fun _ h => by cases h)⟩
theorem mem_learn {l : List Wrd} {w u : Wrd} : u ∈ learn l w ↔ u ∈ l ∨ u = w := by
  unfold learn
  split
  · next h => exact ⟨.inl, fun q => q.elim id fun e => e ▸ h⟩
  · rw [List.mem_append, List.mem_singleton]
theorem nodup_learn {l : List Wrd} {w : Wrd} (h : l.Nodup) : (learn l w).Nodup := by
  unfold learn
  split
  · exact h
  · next q => exact List.nodup_append.mpr ⟨h, by simp, fun a ha b hb e => q (by rw [List.mem_singleton.mp hb] at e; exact e ▸ ha)⟩
theorem Good.learn {st : HS} {w : Wrd} (g : Good st) (o : w.Ok ∧ 0 ≤ w.h ∧ w.h < st.c) : Good (st.learn w) :=
  ⟨g.c1, g.c2, g.o1, g.o2, nodup_learn g.nd, fun u hu => (mem_learn.mp hu).elim (g.wd u) (fun e => e ▸ o), g.mn, g.rn, g.bn, g.nn, g.rk, fun e he u hu => mem_learn.mpr (.inl (g.bk e he u hu)), fun z hz => ⟨mem_learn.mpr (.inl (g.nk z hz).1), mem_learn.mpr (.inl (g.nk z hz).2)⟩⟩
theorem ok_markW : LM.Ok "mark" := ⟨by decide +kernel, by decide +kernel⟩
theorem ok_sayW : LM.Ok "say" := ⟨by decide +kernel, by decide +kernel⟩
theorem Good.mark {st : HS} {w : Wrd} (g : Good st) (o : w.Ok) : Good (st.mark w) := by
  unfold HS.mark
  split
  · next h =>
    have g2 := g.learn (w := markOf st.own w) ⟨⟨ok_markW, o.2⟩, g.o1, g.o2⟩
    refine ⟨g2.c1, g2.c2, g2.o1, g2.o2, g2.nd, g2.wd, ?_, g2.rn, g2.bn, g2.nn, g2.rk, g2.bk, g2.nk⟩
    unfold HS.marks at h
    rw [Bool.and_eq_true, Bool.not_eq_true', decide_eq_false_iff_not] at h
    exact List.nodup_append.mpr ⟨g.mn, by simp, fun a ha b hb e => h.2 (by rw [List.mem_singleton.mp hb] at e; exact e ▸ ha)⟩
  · exact g
theorem mem_rise {c : Int} {l : List Wrd} {w : Wrd} (h : w ∈ rise c l) : w ∈ l := by
  unfold rise at h
  obtain ⟨j, _, e⟩ := List.mem_filterMap.mp h
  exact List.mem_of_find?_eq_some e
theorem Good.write {st : HS} {w : Wrd} (g : Good st) (o : w.Ok) : Good (st.write w) := by
  unfold HS.write
  split
  · next h =>
    unfold HS.writes at h
    rw [Bool.and_eq_true, Bool.not_eq_true', decide_eq_false_iff_not] at h
    refine ⟨g.c1, g.c2, g.o1, g.o2, g.nd, g.wd, g.mn, ?_, ?_, g.nn, ?_, ?_, g.nk⟩
    · rw [List.map_append]
      exact List.nodup_append.mpr ⟨g.rn, by simp, fun a ha b hb e => h.1 (by
        have : b = w.n := by simpa using hb
        rw [← this, ← e]
        exact ha)⟩
    · rw [List.map_append, List.map_append, g.bn]
      rfl
    · intro e he
      rcases List.mem_append.mp he with he | he
      · exact g.rk e he
      · rw [List.mem_singleton.mp he]
        exact o.2
    · intro e he u hu
      rcases List.mem_append.mp he with he | he
      · exact g.bk e he u hu
      · rw [List.mem_singleton.mp he] at hu
        exact (List.mem_filter.mp (mem_rise hu)).1
  · exact g
theorem first_mem {st : HS} {w : Wrd} (h : w ∈ st.known) : st.first w ∈ st.known ∧ (st.first w).pl = w.pl ∧ (st.known.find? fun u => decide (u.pl = w.pl)) = some (st.first w) := by
  unfold HS.first
  cases e : st.known.find? fun u => decide (u.pl = w.pl) with
  | none =>
    have := List.find?_eq_none.mp e w h
    simp at this
  | some u => exact ⟨List.mem_of_find?_eq_some e, by simpa using List.find?_some e, rfl⟩
theorem Good.name {st : HS} {w : Wrd} (g : Good st) (k : w ∈ st.known) : Good (st.name w) := by
  unfold HS.name
  split
  · next h =>
    unfold HS.names at h
    rw [Bool.and_eq_true, Bool.not_eq_true', Bool.not_eq_true', decide_eq_false_iff_not, decide_eq_false_iff_not] at h
    refine ⟨g.c1, g.c2, g.o1, g.o2, g.nd, g.wd, g.mn, g.rn, g.bn, ?_, g.rk, g.bk, ?_⟩
    · rw [List.map_append]
      exact List.nodup_append.mpr ⟨g.nn, by simp, fun a ha b hb e => h.2 (by
        have : b = w.h := by simpa using hb
        rw [← this, ← e]
        exact ha)⟩
    · intro z hz
      rcases List.mem_append.mp hz with hz | hz
      · exact g.nk z hz
      · rw [List.mem_singleton.mp hz]
        exact ⟨(first_mem k).1, k⟩
  · exact g
theorem mark_known {st : HS} {w u : Wrd} (h : u ∈ st.known) : u ∈ (st.mark w).known := by
  unfold HS.mark
  split
  · exact mem_learn.mpr (.inl h)
  · exact h
theorem write_known {st : HS} {w : Wrd} : (st.write w).known = st.known := by
  unfold HS.write
  split <;> rfl
theorem Good.hear {st : HS} {w : Wrd} (g : Good st) (o : w.Ok ∧ 0 ≤ w.h ∧ w.h < st.c) : Good (st.hear w) := by
  unfold HS.hear
  split
  · exact g
  · refine (((g.learn o).mark o.1).write o.1).name ?_
    rw [write_known]
    exact mark_known (mem_learn.mpr (.inr rfl))
structure HouseAt (C : Addr) (F H : Hp) (a : HA) (st : HS) : Prop where
  ob : ∃ dx, H a.p = some (.ins C dx (hf a st.c st.own st.due))
  kn : PKn H a.kn st.known
  ea : PEa F H a.ea st.known
  ma : PMa H a.ma st.marked
  ms : PMs F H a.ms a.ins st.known
  ro : PRo H a.ro st.rows
  ba : PBa F H a.ba st.backs
  nm : PNm F H a.nm st.named
  nd : a.S.Nodup
  go : Good st
theorem HouseAt.to {F' : Hp} (h : HouseAt C F H a st) (f : Same F F') (e : ∀ b o, b ∈ a.S → H b = some o → H' b = some o) : HouseAt C F' H' a st := by
  have m : ∀ b, b ∈ a.S → ∀ o, H b = some o → H' b = some o := fun b hb o => e b o hb
  have inS : ∀ b ∈ a.ins.map (·.2), b ∈ a.S := fun b hb => by unfold HA.S; simp only [List.mem_cons]; simp [hb]
  refine ⟨let ⟨dx, q⟩ := h.ob; ⟨dx, m a.p (by simp [HA.S]) _ q⟩, h.kn.to (m a.kn (by simp [HA.S])), h.ea.to f (m a.ea (by simp [HA.S])), h.ma.to (m a.ma (by simp [HA.S])), h.ms.to f (fun b o hb => ?_), h.ro.to (m a.ro (by simp [HA.S])), h.ba.to f (m a.ba (by simp [HA.S])), h.nm.to f (m a.nm (by simp [HA.S])), h.nd, h.go⟩
  rcases hb with rfl | hb
  · exact m a.ms (by simp [HA.S]) o
  · exact m b (inS b hb) o
theorem HouseAt.alive (h : HouseAt C F H a st) : ∀ b ∈ a.S, ∃ o, H b = some o := fun b hb => by
  unfold HA.S at hb
  simp only [List.mem_cons] at hb
  rcases hb with rfl | rfl | rfl | rfl | rfl | rfl | rfl | rfl | hb
  · exact h.ob.elim fun dx q => ⟨_, q⟩
  · exact h.kn.elim fun k q => ⟨_, q.1⟩
  · exact h.ea.elim fun k q => ⟨_, q.1⟩
  · exact h.ma.elim fun k q => ⟨_, q.1⟩
  · exact ⟨_, h.ms.dt⟩
  · exact ⟨_, h.ro⟩
  · exact h.ba.elim fun k q => ⟨_, q.1⟩
  · exact h.nm.elim fun k q => ⟨_, q.1⟩
  · obtain ⟨e, he, rfl⟩ := List.mem_map.mp hb
    exact (h.ms.inn e he).elim fun k q => ⟨_, q.1⟩
/-- what comes of a deed: N are the new places that may change -/
structure Nxt (C : Addr) (M : List Addr) (H : Hp) (a : HA) (st' : HS) (H' : Hp) (N : List Addr) (a' : HA) : Prop where
  ks : LH.Ks a.S H H'
  nw : ∀ b ∈ N, H b = none
  al : ∀ b ∈ N, ∃ o, H' b = some o
  p : a'.p = a.p
  sub : ∀ b ∈ a'.S, b ∈ a.S ∨ b ∈ N
  sup : ∀ b ∈ a.S, b ∈ a'.S
  at_ : HouseAt C (LH.Fr (N ++ M) H') H' a' st'
theorem Nxt.fr {M N : List Addr} {a' : HA} {st' : HS} (n : Nxt C M H a st' H' N a') (s : ∀ b ∈ a.S, b ∈ M) : Same (LH.Fr M H) (LH.Fr (N ++ M) H') := fun b o h => by
  obtain ⟨h1, h2⟩ := LH.fr_some h
  refine LH.fr_of (n.ks _ _ h1 fun m => h2 (s b m)) fun m => ?_
  rcases List.mem_append.mp m with m | m
  · rw [n.nw b m] at h1
    cases h1
  · exact h2 m
theorem Nxt.subM {M N : List Addr} {a' : HA} {st' : HS} (n : Nxt C M H a st' H' N a') (s : ∀ b ∈ a.S, b ∈ M) : ∀ b ∈ a'.S, b ∈ N ++ M := fun b hb => (n.sub b hb).elim (fun q => List.mem_append.mpr (.inr (s b q))) fun q => List.mem_append.mpr (.inl q)
theorem Nxt.alive {M N : List Addr} {a' : HA} {st' : HS} (n : Nxt C M H a st' H' N a') (al : ∀ b ∈ M, ∃ o, H b = some o) : ∀ b ∈ N ++ M, ∃ o, H' b = some o := fun b hb => by
  rcases List.mem_append.mp hb with hb | hb
  · exact n.al b hb
  · by_cases c : b ∈ a.S
    · exact n.at_.alive b (n.sup b c)
    · obtain ⟨o, h⟩ := al b hb
      exact ⟨o, n.ks _ _ h c⟩
theorem Nxt.same {M N : List Addr} {a' : HA} {st' : HS} {H2 : Hp} (n : Nxt C M H a st' H' N a') (e : Same H' H2) : Nxt C M H a st' H2 N a' :=
  ⟨fun b o h q => e _ _ (n.ks b o h q), n.nw, fun b hb => let ⟨o, h⟩ := n.al b hb; ⟨o, e _ _ h⟩, n.p, n.sub, n.sup, n.at_.to (LH.same_fr e) fun b o _ h => e _ _ h⟩
theorem Nxt.refl {M : List Addr} (h : HouseAt C (LH.Fr M H) H a st) (e : Same H H') : Nxt C M H a st H' [] a :=
  ⟨fun b o q _ => e _ _ q, (fun _ m => by cases m), (fun _ m => by cases m), rfl, fun b q => .inl q, fun b q => q, h.to (LH.same_fr e) fun b o _ q => e _ _ q⟩
theorem Nxt.comp {M N1 N2 : List Addr} {a1 a2 : HA} {st1 st2 : HS} {H1 H2 : Hp} (s : ∀ b ∈ a.S, b ∈ M) (n1 : Nxt C M H a st1 H1 N1 a1) (n2 : Nxt C (N1 ++ M) H1 a1 st2 H2 N2 a2) (h0 : ∀ b ∈ M, ∃ o, H b = some o) : Nxt C M H a st2 H2 (N2 ++ N1) a2 := by
  have new2 : ∀ b ∈ N2, H b = none := fun b hb => by
    cases h : H b with
    | none => rfl
    | some o =>
      by_cases c : b ∈ a.S
      · have := (n1.at_.alive b (n1.sup b c))
        obtain ⟨u, hu⟩ := this
        rw [n2.nw b hb] at hu
        cases hu
      · have := n1.ks b o h c
        rw [n2.nw b hb] at this
        cases this
  refine ⟨fun b o h q => ?_, fun b hb => ?_, fun b hb => ?_, n2.p.trans n1.p, fun b hb => ?_, fun b hb => n2.sup b (n1.sup b hb), ?_⟩
  · refine n2.ks b o (n1.ks b o h q) fun m => ?_
    rcases n1.sub b m with m | m
    · exact q m
    · rw [n1.nw b m] at h
      cases h
  · rcases List.mem_append.mp hb with hb | hb
    · exact new2 b hb
    · exact n1.nw b hb
  · rcases List.mem_append.mp hb with hb | hb
    · exact n2.al b hb
    · by_cases c : b ∈ a1.S
      · exact n2.at_.alive b (n2.sup b c)
      · obtain ⟨o, h⟩ := n1.al b hb
        exact ⟨o, n2.ks _ _ h c⟩
  · rcases n2.sub b hb with h | h
    · rcases n1.sub b h with h | h
      · exact .inl h
      · exact .inr (List.mem_append.mpr (.inr h))
    · exact .inr (List.mem_append.mpr (.inl h))
  · rw [List.append_assoc]
    exact n2.at_
end
section
variable {C : Addr} {F H H' : Hp} {a : HA} {st : HS}
theorem putK_there {κ : Type} [DecidableEq κ] {kvs : List (κ × V)} {k : κ} {v : V} (h : (valV kvs k).isSome = true) : (putK kvs k v).length = kvs.length := by
  unfold putK
  rw [valV_any, if_pos h, List.length_map]
theorem PKn.learn {d : Addr} {l : List Wrd} {w : Wrd} {kvs : List (List Key × V)} {v : V} (h2 : kvs.length ≤ l.length) (h3 : ∀ k, (valV kvs k).isSome = true ↔ ∃ w ∈ l, ky w = k) (g : H' d = some (.dT (putK kvs (ky w) v))) : PKn H' d (HM.learn l w) := by
  refine ⟨_, g, ?_, fun k => ?_⟩
  · unfold HM.learn
    by_cases c : w ∈ l
    · rw [if_pos c, putK_there ((h3 _).mpr ⟨w, c, rfl⟩)]
      exact h2
    · rw [if_neg c, List.length_append]
      have := length_putK kvs (ky w) v
      show _ ≤ l.length + 1
      omega
  · rw [valV_put]
    by_cases c : k = ky w
    · rw [if_pos c]
      exact ⟨fun _ => ⟨w, mem_learn.mpr (.inr rfl), c.symm⟩, fun _ => rfl⟩
    · rw [if_neg c, h3 k]
      constructor
      · rintro ⟨u, hu, e⟩
        exact ⟨u, mem_learn.mpr (.inl hu), e⟩
      · rintro ⟨u, hu, e⟩
        rcases mem_learn.mp hu with hu | rfl
        · exact ⟨u, hu, e⟩
        · exact absurd e.symm c
theorem find_learn {l : List Wrd} {w : Wrd} {p : Wrd → Bool} : (HM.learn l w).find? p = (l.find? p).or (if p w = true then some w else none) := by
  unfold HM.learn
  by_cases c : w ∈ l
  · rw [if_pos c]
    cases e : l.find? p with
    | some u => rfl
    | none =>
      have := List.find?_eq_none.mp e w c
      rw [if_neg this]
      rfl
  · rw [if_neg c, List.find?_append]
    cases e : p w <;> simp [e]
/-- the first at a place is there already -/
theorem PEa.there {d : Addr} {l : List Wrd} {w : Wrd} {kvs : List (List Key × V)} {v : V} (g : H' d = some (.dT kvs)) (h2 : kvs.length ≤ l.length)
    (h3 : ∀ k, ((l.find? fun u => decide (u.pl = k)) = none → valV kvs k = none) ∧ ∀ w, (l.find? fun u => decide (u.pl = k)) = some w → ∃ x, valV kvs k = some x ∧ WT F x w) (hv : valV kvs w.pl = some v) : PEa F H' d (HM.learn l w) := by
  have len : l.length ≤ (HM.learn l w).length := by
    unfold HM.learn
    split
    · exact Nat.le_refl _
    · rw [List.length_append]; exact Nat.le_add_right _ _
  refine ⟨kvs, g, Nat.le_trans h2 len, fun k => ?_⟩
  rw [find_learn]
  cases e : l.find? fun u => decide (u.pl = k) with
  | some u => exact ⟨fun q => (by cases q), fun u' q => (h3 k).2 u' (by rw [e]; exact q)⟩
  | none =>
    have hn := (h3 k).1 e
    have ne : ¬ w.pl = k := fun c => by rw [c, hn] at hv; cases hv
    rw [if_neg (by simpa using ne)]
    exact ⟨fun _ => hn, fun u' q => (by cases q)⟩
/-- a word at a new place -/
theorem PEa.fresh {d : Addr} {l : List Wrd} {w : Wrd} {kvs : List (List Key × V)} {x : V} (h2 : kvs.length ≤ l.length)
    (h3 : ∀ k, ((l.find? fun u => decide (u.pl = k)) = none → valV kvs k = none) ∧ ∀ w, (l.find? fun u => decide (u.pl = k)) = some w → ∃ x, valV kvs k = some x ∧ WT F x w) (hv : valV kvs w.pl = none) (hx : WT F x w)
    (g : H' d = some (.dT (putK kvs w.pl x))) : PEa F H' d (HM.learn l w) := by
  have no : l.find? (fun u => decide (u.pl = w.pl)) = none := by
    cases e : l.find? fun u => decide (u.pl = w.pl) with
    | none => rfl
    | some u =>
      obtain ⟨y, hy, _⟩ := (h3 _).2 u e
      rw [hv] at hy
      cases hy
  have nin : w ∉ l := fun m => by
    have := List.find?_eq_none.mp no w m
    simp at this
  refine ⟨_, g, ?_, fun k => ?_⟩
  · unfold HM.learn
    rw [if_neg nin, List.length_append]
    have := length_putK kvs w.pl x
    show _ ≤ l.length + 1
    omega
  · rw [find_learn, valV_put]
    by_cases c : k = w.pl
    · subst c
      rw [no, if_pos rfl, if_pos (by simp)]
      exact ⟨fun q => (by cases q), fun u q => (by injection q with q; subst q; exact ⟨x, rfl, hx⟩)⟩
    · rw [if_neg c, if_neg (by simpa using fun q => c q.symm), Option.or_none]
      exact h3 k
theorem marksOf_learn {l : List Wrd} {w : Wrd} {k : List Key} : marksOf (HM.learn l w) k = marksOf l k ++ if w ∈ l then [] else if isM k w = true then [w] else [] := by
  unfold HM.learn marksOf
  by_cases c : w ∈ l
  · rw [if_pos c, if_pos c, List.append_nil]
  · rw [if_neg c, if_neg c, List.filter_append]
    congr 1
    cases e : isM k w <;> simp [List.filter, e]
theorem isM_nr {k : List Key} {w : Wrd} (h : isM k w = true) : w.k = "mark" ∧ nr w = k := by
  unfold isM at h
  rw [Bool.and_eq_true, decide_eq_true_eq, decide_eq_true_eq] at h
  exact h
theorem mark_eq {w u : Wrd} {k : List Key} (h1 : isM k w = true) (h2 : isM k u = true) (h : w.h = u.h) : w = u := by
  obtain ⟨a1, a2⟩ := isM_nr h1
  obtain ⟨b1, b2⟩ := isM_nr h2
  have := nr_eq.mp (a2.trans b2.symm)
  cases w; cases u
  simp only at *
  rw [a1, b1, this.1, this.2, h]
/-- what is no mark changes no marks -/
theorem PMs.say {F' : Hp} {d : Addr} {ins : List (List Key × Addr)} {l : List Wrd} {w : Wrd} (h : PMs F H d ins l) (n : ¬ w.k = "mark") (f : Same F F') (e : ∀ b o, b = d ∨ b ∈ ins.map (·.2) → H b = some o → H' b = some o) : PMs F' H' d ins (HM.learn l w) := by
  have same : ∀ k, marksOf (HM.learn l w) k = marksOf l k := fun k => by
    rw [marksOf_learn]
    split
    · rw [List.append_nil]
    · rw [if_neg (fun q => n (isM_nr q).1), List.append_nil]
  have h' := h.to f e
  exact ⟨h'.dt, h'.nd, fun i hi => by rw [same]; exact h'.inn i hi, fun k => by rw [same]; exact h'.all k⟩
theorem lookup_ins {ins : List (List Key × Addr)} {k : List Key} {v : V} (h : valV (ins.map fun e => (e.1, V.ref e.2)) k = some v) : ∃ e ∈ ins, e.1 = k ∧ v = .ref e.2 := by
  unfold valV at h
  obtain ⟨kv, hk, rfl⟩ := Option.map_eq_some_iff.mp h
  obtain ⟨e, he, rfl⟩ := List.mem_map.mp (List.mem_of_find?_eq_some hk)
  exact ⟨e, he, by simpa using List.find?_some hk, rfl⟩
theorem no_ins {ins : List (List Key × Addr)} {k : List Key} (h : valV (ins.map fun e => (e.1, V.ref e.2)) k = none) : k ∉ ins.map (·.1) := fun m => by
  obtain ⟨e, he, rfl⟩ := List.mem_map.mp m
  unfold valV at h
  have h := Option.map_eq_none_iff.mp h
  have := List.find?_eq_none.mp h (e.1, V.ref e.2) (List.mem_map.mpr ⟨e, he, rfl⟩)
  simp at this
/-- one more mark in a dict of marks -/
theorem PIn.put {d : Addr} {l : List Wrd} {w : Wrd} {k : List Key} {x : V} {kvs : List (Key × V)} (hm : isM k w = true) (e1 : kvs.map (·.1) = (marksOf l k).map (fun w => Sum.inl w.h)) (e2 : ∀ w ∈ marksOf l k, ∃ x, valV kvs (Sum.inl w.h) = some x ∧ WT F x w)
    (hx : WT F x w) (g : H' d = some (.dK (putK kvs (Sum.inl w.h) x))) : PIn F H' d (marksOf (HM.learn l w) k) := by
  have allM : ∀ u ∈ marksOf l k, isM k u = true := fun u hu => (List.mem_filter.mp hu).2
  refine ⟨_, g, ?_, fun u hu => ?_⟩
  · rw [marksOf_learn]
    by_cases c : w ∈ l
    · rw [if_pos c, List.append_nil]
      have hw : w ∈ marksOf l k := List.mem_filter.mpr ⟨c, hm⟩
      obtain ⟨y, hy, _⟩ := e2 w hw
      unfold putK
      rw [valV_any, hy, if_pos (show (some y).isSome = true from rfl), List.map_map, ← e1]
      refine List.map_congr_left fun kv _ => ?_
      show (if kv.1 = Sum.inl w.h then (kv.1, x) else kv).1 = kv.1
      split <;> rfl
    · have no : valV kvs (Sum.inl w.h) = none := by
        cases q : valV kvs (Sum.inl w.h) with
        | none => rfl
        | some y =>
          exfalso
          have : Sum.inl w.h ∈ kvs.map (·.1) := by
            unfold valV at q
            obtain ⟨kv, hk, _⟩ := Option.map_eq_some_iff.mp q
            refine List.mem_map.mpr ⟨kv, List.mem_of_find?_eq_some hk, by simpa using List.find?_some hk⟩
          rw [e1] at this
          obtain ⟨u, hu, eh⟩ := List.mem_map.mp this
          have := mark_eq (allM u hu) hm (Sum.inl.inj eh)
          subst this
          exact c (List.mem_filter.mp hu).1
      rw [if_neg c, if_pos hm, putK_new _ no, List.map_append, e1, List.map_append]
      rfl
  · rw [valV_put]
    rw [marksOf_learn] at hu
    by_cases c : u.h = w.h
    · rw [if_pos (by rw [c])]
      have : u = w := by
        rcases List.mem_append.mp hu with hu | hu
        · exact mark_eq (allM u hu) hm c
        · split at hu
          · cases hu
          · simpa [hm] using hu
      subst this
      exact ⟨x, rfl, hx⟩
    · rw [if_neg fun q => c (Sum.inl.inj q)]
      rcases List.mem_append.mp hu with hu | hu
      · exact e2 u hu
      · split at hu
        · cases hu
        · have : u = w := by simpa [hm] using hu
          exact absurd (by rw [this]) c
/-- a mark of a row that has some: its dict takes it -/
theorem PMs.more {d : Addr} {ins : List (List Key × Addr)} {l : List Wrd} {w : Wrd} {e : List Key × Addr} (h : PMs F H d ins l) (he : e ∈ ins) (ee : e.1 = nr w) (wm : w.k = "mark") (nda : (ins.map (·.2)).Nodup)
    (k : ∀ b o, H b = some o → b ≠ e.2 → H' b = some o) (de : d ≠ e.2) (g : PIn F H' e.2 (marksOf (HM.learn l w) e.1)) : PMs F H' d ins (HM.learn l w) := by
  have other : ∀ k0, k0 ≠ nr w → marksOf (HM.learn l w) k0 = marksOf l k0 := fun k0 hk => by
    rw [marksOf_learn]
    split
    · rw [List.append_nil]
    · rw [if_neg (fun q => hk (isM_nr q).2.symm), List.append_nil]
  refine ⟨k _ _ h.dt de, h.nd, fun i hi => ?_, fun k0 => ?_⟩
  · by_cases c : i.1 = nr w
    · have : i = e := by
        have h1 : i.1 = e.1 := c.trans ee.symm
        obtain ⟨n, hn, en⟩ := List.mem_iff_getElem.mp hi
        obtain ⟨m, hm, em⟩ := List.mem_iff_getElem.mp he
        have : n = m := by
          refine (List.getElem_inj (xs := ins.map (·.1)) (h₀ := by rw [List.length_map]; exact hn) (h₁ := by rw [List.length_map]; exact hm) h.nd).mp ?_
          rw [List.getElem_map, List.getElem_map, en, em, h1]
        subst this
        rw [← en, ← em]
      subst this
      exact g
    · rw [other _ c]
      refine (h.inn i hi).to (Same.refl _) fun o q => k _ _ q fun z => c ?_
      obtain ⟨n, hn, en⟩ := List.mem_iff_getElem.mp hi
      obtain ⟨m, hm, em⟩ := List.mem_iff_getElem.mp he
      have : n = m := by
        refine (List.getElem_inj (xs := ins.map (·.2)) (h₀ := by rw [List.length_map]; exact hn) (h₁ := by rw [List.length_map]; exact hm) nda).mp ?_
        rw [List.getElem_map, List.getElem_map, en, em, z]
      subst this
      rw [← en, em]
      exact ee
  · by_cases c : k0 = nr w
    · subst c
      have a1 := (h.all (nr w)).mpr (List.mem_map.mpr ⟨e, he, ee⟩)
      refine ⟨fun _ => List.mem_map.mpr ⟨e, he, ee⟩, fun _ => ?_⟩
      rw [marksOf_learn]
      exact fun q => a1 (List.append_eq_nil_iff.mp q).1
    · rw [other _ c]
      exact h.all k0
theorem PMs.few {d : Addr} {ins : List (List Key × Addr)} {l : List Wrd} (h : PMs F H d ins l) : ins.length ≤ l.length := by
  have s : ins.map (·.1) ⊆ l.map nr := fun k hk => by
    have ne := (h.all k).mpr hk
    obtain ⟨w, hw⟩ := List.exists_mem_of_ne_nil _ ne
    obtain ⟨h1, h2⟩ := List.mem_filter.mp hw
    exact List.mem_map.mpr ⟨w, h1, (isM_nr h2).2⟩
  have := h.nd.length_le_of_subset s
  rwa [List.length_map, List.length_map] at this
/-- the first mark of a row: a new dict -/
theorem PMs.first {d n : Addr} {ins : List (List Key × Addr)} {l : List Wrd} {w : Wrd} (h : PMs F H d ins l) (wm : w.k = "mark") (no : nr w ∉ ins.map (·.1)) (nw : w ∉ l)
    (k : ∀ b o, H b = some o → b ≠ d → H' b = some o) (dn : ∀ e ∈ ins, e.2 ≠ d) (g0 : H' d = some (.dT ((ins ++ [(nr w, n)]).map fun e => (e.1, V.ref e.2)))) (g : PIn F H' n (marksOf (HM.learn l w) (nr w))) : PMs F H' d (ins ++ [(nr w, n)]) (HM.learn l w) := by
  have hm : isM (nr w) w = true := by unfold isM; simp [wm]
  have other : ∀ k0, k0 ≠ nr w → marksOf (HM.learn l w) k0 = marksOf l k0 := fun k0 hk => by
    rw [marksOf_learn]
    split
    · rw [List.append_nil]
    · rw [if_neg (fun q => hk (isM_nr q).2.symm), List.append_nil]
  refine ⟨g0, ?_, fun i hi => ?_, fun k0 => ?_⟩
  · rw [List.map_append]
    exact List.nodup_append.mpr ⟨h.nd, by simp, fun x hx y hy e => no (by simp only [List.map_cons, List.map_nil, List.mem_singleton] at hy; rw [← hy, ← e]; exact hx)⟩
  · rcases List.mem_append.mp hi with hi | hi
    · have c : i.1 ≠ nr w := fun q => no (List.mem_map.mpr ⟨i, hi, q⟩)
      rw [other _ c]
      exact (h.inn i hi).to (Same.refl _) fun o q => k _ _ q (dn i hi)
    · rw [List.mem_singleton.mp hi]
      exact g
  · by_cases c : k0 = nr w
    · subst c
      refine ⟨fun _ => by simp, fun _ => ?_⟩
      rw [marksOf_learn, if_neg nw, if_pos hm]
      simp
    · rw [other _ c, h.all k0, List.map_append, List.mem_append]
      exact ⟨.inl, fun q => q.elim id fun q => absurd (by simpa using q) c⟩
end
def HS.size (st : HS) : Nat := st.known.length + st.marked.length + st.rows.length + st.named.length
theorem learn_len {l : List Wrd} {w : Wrd} : (learn l w).length ≤ l.length + 1 := by
  unfold learn
  split
  · omega
  · rw [List.length_append]; exact Nat.le_refl _
theorem size_learn {st : HS} {w : Wrd} : (st.learn w).size ≤ st.size + 1 := by
  have := learn_len (l := st.known) (w := w)
  unfold HS.size
  show (learn st.known w).length + st.marked.length + st.rows.length + st.named.length ≤ _
  omega
theorem size_mark {st : HS} {w : Wrd} : (st.mark w).size ≤ st.size + 2 := by
  unfold HS.mark
  split
  · have := learn_len (l := st.known) (w := markOf st.own w)
    unfold HS.size
    show (learn st.known (markOf st.own w)).length + (st.marked ++ [w.n]).length + st.rows.length + st.named.length ≤ _
    rw [List.length_append, List.length_singleton]
    omega
  · omega
theorem size_write {st : HS} {w : Wrd} : (st.write w).size ≤ st.size + 1 := by
  unfold HS.write
  split
  · unfold HS.size
    show st.known.length + st.marked.length + (st.rows ++ [(w.n, w.r)]).length + st.named.length ≤ _
    rw [List.length_append, List.length_singleton]
    omega
  · omega
theorem size_name {st : HS} {w : Wrd} : (st.name w).size ≤ st.size + 1 := by
  unfold HS.name
  split
  · unfold HS.size
    show st.known.length + st.marked.length + st.rows.length + (st.named ++ [(w.h, st.first w, w)]).length ≤ _
    rw [List.length_append, List.length_singleton]
    omega
  · omega
theorem size_hear {st : HS} {w : Wrd} : (st.hear w).size ≤ st.size + 5 := by
  unfold HS.hear
  split
  · omega
  · have h1 := size_learn (st := st) (w := w)
    have h2 := size_mark (st := st.learn w) (w := w)
    have h3 := size_write (st := (st.learn w).mark w) (w := w)
    have h4 := size_name (st := ((st.learn w).mark w).write w) (w := w)
    omega
section
variable {F H H' : Hp}
theorem PMa.put {d : Addr} {l : List Int} {n : Int} {v : V} {kvs : List (Key × V)} (h1 : kvs.length ≤ l.length) (h2 : ∀ n : Int, (valV kvs (Sum.inl n)).isSome = true ↔ n ∈ l) (g : H' d = some (.dK (putK kvs (Sum.inl n) v))) : PMa H' d (l ++ [n]) := by
  refine ⟨_, g, ?_, fun m => ?_⟩
  · have := length_putK kvs (Sum.inl n : Key) v
    rw [List.length_append]
    show _ ≤ l.length + 1
    omega
  · rw [valV_put, List.mem_append, List.mem_singleton]
    by_cases c : m = n
    · rw [if_pos (by rw [c])]
      exact ⟨fun _ => .inr c, fun _ => rfl⟩
    · rw [if_neg fun q => c (Sum.inl.inj q), h2 m]
      exact ⟨.inl, fun q => q.elim id fun q => absurd q c⟩
end
end HM
/-! a dict made of a list of ints; a house's ledger sorted -/
namespace LH
open PySem L2
theorem vin_none {v : Int → V} {ys : List Int} {j : Int} (h : j ∉ ys) : valV (ys.map fun i => ((Sum.inl i : Key), v i)) (Sum.inl j) = none := by
  unfold valV
  rw [Option.map_eq_none_iff, List.find?_eq_none]
  rintro e he q
  obtain ⟨i, hi, rfl⟩ := List.mem_map.mp he
  have : i = j := by simpa using q
  exact h (this ▸ hi)
theorem pe_fldN {X : Cx} {K : PySem.W.Frag} {o : Expr} {f : PySem.Str} {pos : Pos} {ta : TE} (he : PE X o ta) (hb : attributeBase o f X.env (eval o X.env) = eval o X.env) (hK : X.K = K := by rfl) : PE X (.Attribute o f pos) (tFld K ta f) := hK ▸ pe_fld he hb
section
variable {K : PySem.W.Frag} {σ : L2.St} {H : Hp} {Q : VK} {tl tk tv : TE} {t : TT} {g : TG}
def DcV (K : PySem.W.Frag) (g : TG) (t : TT) (tk tv : TE) (vs : List Nat) (σ : L2.St) (x : V) (H1 : Hp) (Q : VK) : Prop :=
  ∃ a, x = .ref a ∧ (∃ xs, SqL K H1 a xs) ∧ ∀ D, H1 D = none → ∃ W : Nat → Nat → Hp → Prop, (∃ m, W 0 m (upd H1 D (.dK []))) ∧ ∀ i m H, W i m H →
  ((Itl K a).stop i H ∧ Q (.ref D) H) ∨ ((Itl K a).go i H ∧ ∃ Nx : Hp → Prop, (∀ H', Nx H' → ∃ m', m' < m ∧ W (i + 1) m' H') ∧ ∀ x H', (Itl K a).yld i H x H' → g x (wipe σ vs) H' fun σ2 H2 => wipe σ2 vs = wipe σ vs ∧ t σ2 H2 fun b H3 =>
    if b = true then tk σ2 H3 fun y H4 => tv σ2 H4 fun z H5 => ∃ kvs k, y = kV k ∧ H5 D = some (.dK kvs) ∧ kvs.length < sizeLine ∧ Nx (upd H5 D (.dK (putK kvs k z))) else Nx H3)
theorem x_dc {vs : List Nat} (h : tl σ H fun x H1 => DcV K g t tk tv vs σ x H1 Q) : tDc (iList K tl) g t tk tv vs σ H Q := h
/-- {j: v j for j in ys} -/
theorem dc_L {a : Addr} {ys : List Int} {j : Nat} {vs : List Nat} (hx : SqL K H a (ys.map V.int)) (hz : ys.length ≤ 100000) (nd : ys.Nodup) (v : Int → V)
    (hw : ∀ x, wipe ((wipe σ vs).set j (some x)) vs = wipe σ vs)
    (hk : ∀ i, i ∈ ys → ∀ H1, Same H H1 → ∀ Q : VK, (∀ H2, Same H1 H2 → Q (.int i) H2) → tk ((wipe σ vs).set j (some (.int i))) H1 Q)
    (he : ∀ i, i ∈ ys → ∀ H1, Same H H1 → ∀ Q : VK, (∀ H2, Same H1 H2 → Q (v i) H2) → tv ((wipe σ vs).set j (some (.int i))) H1 Q)
    (k : ∀ p H2, H p = none → Same H H2 → H2 p = some (.dK (ys.map fun i => (Sum.inl i, v i))) → Q (.ref p) H2) : DcV K (gName j) tYes tk tv vs σ (.ref a) H Q := by
  refine ⟨a, rfl, ⟨_, hx⟩, fun D hD => ?_⟩
  refine ⟨fun i m H' => m = ys.length - i ∧ i ≤ ys.length ∧ Same H H' ∧ H' D = some (.dK ((ys.take i).map fun i => (Sum.inl i, v i))), ⟨ys.length, by simp, Nat.zero_le _, Same.new hD, upd_same⟩, ?_⟩
  rintro i m H' ⟨rfl, hi, e, hD'⟩
  have q := Same.seq e hx
  by_cases hlt : i < ys.length
  · refine .inr ⟨⟨_, .int ys[i], q, by simp [hlt]⟩, fun H2 => Same H H2 ∧ H2 D = some (.dK ((ys.take (i + 1)).map fun i => (Sum.inl i, v i))), fun H2 p2 => ⟨ys.length - (i + 1), by omega, rfl, hlt, p2⟩, fun x H2 y => ?_⟩
    obtain ⟨e2, y⟩ := y
    subst e2
    have ex := y _ q
    rw [List.getElem?_map, List.getElem?_eq_getElem hlt] at ex
    injection ex with ex
    subst ex
    have et := take_more (List.getElem?_eq_getElem hlt)
    have hm : ys[i] ∈ ys := List.getElem_mem hlt
    refine ⟨hw _, ?_⟩
    refine x_yes ?_
    rw [if_pos rfl]
    refine hk _ hm H2 e _ fun H3 e3 => ?_
    refine he _ hm H3 (e.trans e3) _ fun H4 e4 => ⟨_, Sum.inl ys[i], rfl, e4 _ _ (e3 _ _ hD'), ?_, ?_, ?_⟩
    · rw [List.length_map, List.length_take]
      exact sz' (by omega)
    · exact Same.mut ((e.trans e3).trans e4) hD
    · have no : ys[i] ∉ ys.take i := fun m => by
        obtain ⟨n, hn, en⟩ := List.mem_iff_getElem.mp m
        rw [List.length_take] at hn
        rw [List.getElem_take] at en
        have := (List.getElem_inj (h₀ := by omega) (h₁ := hlt) nd).mp en
        omega
      rw [et, putK_new _ (vin_none no), List.map_append]
      exact upd_same
  · have e2 : i = ys.length := by omega
    subst e2
    rw [List.take_length] at hD'
    exact .inl ⟨⟨_, q, by rw [List.length_map]; exact Nat.le_refl _⟩, k D H' hD e hD'⟩
end
end LH
/-! what a house tells when asked -/
namespace HM
open PySem L2 LM
def HS.nums (st : HS) : List Int := (st.rows.map (·.1)).mergeSort fun a b => decide (a ≤ b)
theorem sort_eq {l ys : List Int} (per : ys.Perm l) (so : ys.Pairwise (· ≤ ·)) (nd : l.Nodup) : ys = l.mergeSort fun a b => decide (a ≤ b) := by
  have p2 := List.mergeSort_perm l fun a b => decide (a ≤ b)
  have s2 : (l.mergeSort fun a b => decide (a ≤ b)).Pairwise (· ≤ ·) := by
    have := List.pairwise_mergeSort (le := fun a b : Int => decide (a ≤ b)) (fun a b c h1 h2 => by simp at *; omega) (fun a b => by simp; omega) l
    exact this.imp fun h => by simpa using h
  exact rise_eq so s2 (per.nodup_iff.mpr nd) (p2.nodup_iff.mpr nd) fun x => (per.mem_iff).trans p2.mem_iff.symm
/-- the row of a number -/
def HS.rowAt (st : HS) (n : Int) : Str := ((st.rows.find? fun e => decide (e.1 = n)).map (·.2)).getD ""
def HS.led (st : HS) : List (Int × Str) := st.nums.map fun n => (n, st.rowAt n)
theorem nums_mem {st : HS} {n : Int} : n ∈ st.nums ↔ n ∈ st.rows.map (·.1) := (List.mergeSort_perm _ _).mem_iff
theorem nums_nodup {st : HS} (g : Good st) : st.nums.Nodup := (List.mergeSort_perm _ _).nodup_iff.mpr g.rn
theorem rowAt_val {st : HS} {n : Int} (h : n ∈ st.rows.map (·.1)) : valV (st.rows.map fun e => ((Sum.inl e.1 : Key), V.str e.2)) (Sum.inl n) = some (.str (st.rowAt n)) := by
  unfold valV HS.rowAt
  revert h
  generalize st.rows = l
  induction l with
  | nil => intro h; cases h
  | cons e l ih =>
    intro h
    rw [List.map_cons, List.find?_cons, List.find?_cons]
    by_cases c : e.1 = n
    · simp [c]
    · have h1 : decide ((Sum.inl e.1 : Key) = Sum.inl n) = false := by simp [c]
      have h2 : decide (e.1 = n) = false := by simp [c]
      rw [h1, h2]
      refine ih ?_
      rcases List.mem_cons.mp h with h | h
      · exact absurd h.symm c
      · exact h
theorem paired_get {α : Type} {F : Key × V → α → Prop} {f : α → Int} {G : V → α → Prop} (hf : ∀ e x, F e x → e.1 = Sum.inl (f x) ∧ G e.2 x) {n : Int} : ∀ {kvs : List (Key × V)} {l : List α}, Paired F kvs l →
    (l.find? (fun x => decide (f x = n)) = none → valV kvs (Sum.inl n) = none) ∧ ∀ x, l.find? (fun x => decide (f x = n)) = some x → ∃ v, valV kvs (Sum.inl n) = some v ∧ G v x
  | _, _, .nil => ⟨fun _ => rfl, fun x h => nomatch h⟩
  | _, _, .cons (a := e) (b := x) q r => by
    have ih := paired_get hf (n := n) r
    obtain ⟨e1, e2⟩ := hf _ _ q
    unfold valV at ih ⊢
    simp only [List.find?_cons, e1]
    by_cases c : f x = n
    · have h2 : decide (f x = n) = true := by simp [c]
      have h1 : decide ((Sum.inl (f x) : Key) = Sum.inl n) = true := by simp [c]
      rw [h1, h2]
      exact ⟨(fun h => nomatch h), fun y h => by injection h with h; subst h; exact ⟨_, rfl, e2⟩⟩
    · have h2 : decide (f x = n) = false := by simp [c]
      have h1 : decide ((Sum.inl (f x) : Key) = Sum.inl n) = false := by simp [c]
      rw [h1, h2]
      exact ih
theorem size_call {st : HS} {z : Str} : (st.call z).size ≤ st.size + 5 := size_hear (st := { st with due := st.due + st.c }) (w := sayOf st z)
theorem Good.call {st : HS} {z : Str} (g : Good st) (o : LM.Ok z) : Good (st.call z) :=
  Good.hear (st := { st with due := st.due + st.c }) (w := sayOf st z) ⟨g.c1, g.c2, g.o1, g.o2, g.nd, g.wd, g.mn, g.rn, g.bn, g.nn, g.rk, g.bk, g.nk⟩ ⟨⟨ok_sayW, o⟩, g.o1, g.o2⟩
theorem mark_same {st : HS} {w : Wrd} : (st.mark w).c = st.c ∧ (st.mark w).own = st.own ∧ (st.mark w).due = st.due ∧ (st.mark w).rows = st.rows := by
  unfold HS.mark
  split <;> exact ⟨rfl, rfl, rfl, rfl⟩
theorem write_same {st : HS} {w : Wrd} : (st.write w).c = st.c ∧ (st.write w).own = st.own ∧ (st.write w).due = st.due := by
  unfold HS.write
  split <;> exact ⟨rfl, rfl, rfl⟩
theorem name_same {st : HS} {w : Wrd} : (st.name w).c = st.c ∧ (st.name w).own = st.own ∧ (st.name w).due = st.due ∧ (st.name w).rows = st.rows := by
  unfold HS.name
  split <;> exact ⟨rfl, rfl, rfl, rfl⟩
theorem write_rows {st : HS} {w : Wrd} {e : Int × Str} (h : e ∈ (st.write w).rows) : e ∈ st.rows ∨ e = (w.n, w.r) := by
  unfold HS.write at h
  split at h
  · exact (List.mem_append.mp h).imp id fun q => by simpa using q
  · exact .inl h
theorem hear_same {st : HS} {w : Wrd} : (st.hear w).c = st.c ∧ (st.hear w).own = st.own ∧ (st.hear w).due = st.due := by
  unfold HS.hear
  split
  · exact ⟨rfl, rfl, rfl⟩
  · obtain ⟨a1, a2, a3, _⟩ := mark_same (st := st.learn w) (w := w)
    obtain ⟨b1, b2, b3⟩ := write_same (st := (st.learn w).mark w) (w := w)
    obtain ⟨d1, d2, d3, _⟩ := name_same (st := ((st.learn w).mark w).write w) (w := w)
    exact ⟨d1.trans (b1.trans a1), d2.trans (b2.trans a2), d3.trans (b3.trans a3)⟩
theorem hear_rows {st : HS} {w : Wrd} {e : Int × Str} (h : e ∈ (st.hear w).rows) : e ∈ st.rows ∨ e = (w.n, w.r) := by
  unfold HS.hear at h
  split at h
  · exact .inl h
  · rw [name_same.2.2.2] at h
    rcases write_rows h with h | h
    · rw [mark_same.2.2.2] at h
      exact .inl h
    · exact .inr h
theorem valV_self : ∀ {kvs : List (Key × V)}, (kvs.map (·.1)).Nodup → ∀ p ∈ kvs, valV kvs p.1 = some p.2
  | [], _, p, h => by cases h
  | e :: l, nd, p, h => by
    rw [List.map_cons, List.nodup_cons] at nd
    unfold valV
    rw [List.find?_cons]
    by_cases c : e.1 = p.1
    · rw [decide_eq_true c]
      rcases List.mem_cons.mp h with rfl | h
      · rfl
      · exact absurd (List.mem_map.mpr ⟨p, h, c.symm⟩) nd.1
    · rw [decide_eq_false c]
      rcases List.mem_cons.mp h with rfl | h
      · exact absurd rfl c
      · exact valV_self nd.2 p h
end HM
/-! two lists whose items are all equal, compared by != -/
namespace LH
open PySem PySem.Spec PyProof.Rows L2 SeqAt
open AutoSeq1 (wpAny_loadPart')
open MeetsSeq MeetsSeq2 MeetsSeq3 SeqRoads2
section
variable {prog : Program} {w : World}
theorem ne_go (l b : Addr) (xs ys : Array Value) (n m : Nat) (d1 d2 : Option Addr) (t1 t2 : Array (Option Value)) (same : xs.size = ys.size) : ∀ (k i : Nat), xs.size - i = k →
    MeetsIn prog w (Builtin.«list.__eq__.loop» ⟨[.ref l, .ref b, rawInt i, rawInt 3], []⟩) (fun A R s =>
      s.heap.get? l = some { cls := .type "list", dict := d1, data := .seq xs n, slots := t1 } ∧ s.heap.get? b = some { cls := .type "list", dict := d2, data := .seq ys m, slots := t2 } ∧
      (∀ j (h1 : j < xs.size) (h2 : j < ys.size), EqP prog w A.in1 s xs[j] ys[j] true) ∧ R (.ok (.ret (.bool false))) s)
  | 0, i, hk, A, R, s, h => by
    obtain ⟨hp, g, d, tk, os⟩ := s
    obtain ⟨hl, hb, he, h⟩ := h
    wp_walk using wpAny_loadPart' hl, wpAny_loadPart' hb
    have no1 : xs[((i : Nat) : Int).toNat]? = none := by simp; omega
    have no2 : ys[((i : Nat) : Int).toNat]? = none := by simp; omega
    rw [no1, no2]
    wp_walk using wpAny_loadPart' hl, wpAny_loadPart' hb
    show R (.ok (.ret (.bool (xs.size != ys.size)))) _
    rw [same]
    simpa using h
  | k + 1, i, hk, A, R, s, h => by
    obtain ⟨hp, g, d, tk, os⟩ := s
    obtain ⟨hl, hb, he, h⟩ := h
    wp_walk using wpAny_loadPart' hl, wpAny_loadPart' hb
    have i1 : i < xs.size := by omega
    have i2 : i < ys.size := by omega
    have yes1 : xs[((i : Nat) : Int).toNat]? = some xs[i] := by simp [i1]
    have yes2 : ys[((i : Nat) : Int).toNat]? = some ys[i] := by simp [i2]
    have up : ((i : Int) + 1) = ((i + 1 : Nat) : Int) := by push_cast; rfl
    rw [yes1, yes2]
    refine wpAny_bind (he i i1 i2 _ _ ?_)
    wp_walk
    rw [up]
    refine ⟨plainId_quiet plain_eq_loop _, codeAny_builtin entry_eq_loop ?_⟩
    rw [Around.under_plainId plain_eq_loop _]
    exact ne_go l b xs ys n m d1 d2 t1 t2 same k (i + 1) (by omega) A R _ ⟨hl, hb, he, h⟩
theorem ne_in (l b : Addr) (xs ys : Array Value) (n m : Nat) (d1 d2 : Option Addr) (t1 t2 : Array (Option Value)) (same : xs.size = ys.size) :
    MeetsIn prog w (Builtin.«list.__ne__» ⟨[.ref l, .ref b], []⟩) (fun A R s =>
      s.heap.get? l = some { cls := .type "list", dict := d1, data := .seq xs n, slots := t1 } ∧ s.heap.get? b = some { cls := .type "list", dict := d2, data := .seq ys m, slots := t2 } ∧
      (∀ j (h1 : j < xs.size) (h2 : j < ys.size), EqP prog w A.in1 s xs[j] ys[j] true) ∧ R (.ok (.ret (.bool false))) s) := by
  intro A R s h
  obtain ⟨hp, g, d, tk, os⟩ := s
  obtain ⟨hl, hb, he, h⟩ := h
  have f3 := AutoSeq1.sub_list_list
  have hne : ¬ (xs.size != ys.size) = true := by simp [same]
  wp_walk using wpAny_loadPart' hl, wpAny_loadPart' hb
  refine ⟨plainId_quiet plain_eq_loop _, codeAny_builtin entry_eq_loop ?_⟩
  rw [Around.under_plainId plain_eq_loop _]
  exact ne_go l b xs ys n m d1 d2 t1 t2 same _ 0 rfl A R _ ⟨hl, hb, he, h⟩
theorem rc_ne_lists {A : Around} {s : Shared} {l b : Addr} {xs ys : Array Value} (hl : s.heap.IsList l xs) (hb : s.heap.IsList b ys) (same : xs.size = ys.size) (hu : A.units < cLine)
    (he : ∀ j (h1 : j < xs.size) (h2 : j < ys.size), EqP prog w A.in1 s xs[j] ys[j] true) (E Q : Value → Shared → Prop) (h : Q (.bool false) s) : wpAny (model prog w) A (richCompare .NotEq (.ref l) (.ref b)) Q E s := by
  obtain ⟨⟨c1, d1, x1, t1⟩, o1, hc1, n, hd1⟩ := id hl
  obtain ⟨⟨c2, d2, x2, t2⟩, o2, hc2, m, hd2⟩ := id hb
  simp only at hc1 hd1 hc2 hd2
  subst hc1 hd1 hc2 hd2
  have ta : s.TypeIs (.ref l) "list" := ⟨_, o1, rfl⟩
  have tb : s.TypeIs (.ref b) "list" := ⟨_, o2, rfl⟩
  refine wpAny_richCompare_same_room (op := .NotEq) ta tb F.slot_list_ne (call_meetsIn F.slot_list_ne ta F.entry_list_ne (F.args_list_ne_2 _ _) (ne_in l b xs ys n m d1 d2 t1 t2 same) ⟨o1, o2, he, ?_⟩) hu
  exact ⟨(fun x => nomatch x), h⟩
end
section
variable {X : Cx}
def rNeL (K : PySem.W.Frag) : R2 := fun x y H Q => ∃ n a b xs ys, n ≤ 60 ∧ x = .ref a ∧ y = .ref b ∧ SqL K H a xs ∧ SqL K H b ys ∧ Paired (EqV K H n) xs ys ∧ Q (.bl false) H
theorem op_neL (hu : X.A.units + 64 < cLine) : OpR X (compareOp .NotEq) (rNeL X.K) := by
  intro pins s σ H x y v u Q I rx ry h
  obtain ⟨n, a, b, xs, ys, hn, rfl, rfl, ha, hb, hp, q⟩ := h
  cases (show v = Value.ref a from rx)
  cases (show u = Value.ref b from ry)
  obtain ⟨us, r1, p1, _⟩ := I.list ha
  obtain ⟨ws, r2, p2, _⟩ := I.list hb
  have hsz : us.toArray.size = ws.toArray.size := by
    rw [List.size_toArray, List.size_toArray, ← r1.length, ← r2.length]
    exact Paired.length hp
  refine rc_ne_lists p1.isList p2.isList hsz (by omega) (fun j h1 h2 => ?_) _ _ ⟨.bl false, H, I, rfl, q⟩
  have k := items_run (fun x y v u => eqV_run I n X.A.in1 (by show X.A.units + 1 + n < cLine; omega) x y v u) hp r1 r2 j (by simpa using h1) (by simpa using h2)
  simpa using k
theorem x_neL {K : PySem.W.Frag} {a b : Addr} {xs ys : List V} {H : Hp} {Q : VK} (n : Nat) (hn : n ≤ 60) (h1 : SqL K H a xs) (h2 : SqL K H b ys) (hp : Paired (EqV K H n) xs ys) (q : Q (.bl false) H) : rNeL K (.ref a) (.ref b) H Q := ⟨n, a, b, xs, ys, hn, rfl, rfl, h1, h2, hp, q⟩
end
end LH
/-! sorted of tuples (number, thing) whose numbers all differ -/
namespace LO
open PySem PyProof.Rows Srt SrtO
/-- a tuple of a number and a thing -/
def IsNT (h : Heap) (v : Value) (x : Int) : Prop := ∃ a o t b n, v = .ref a ∧ h.get? a = some o ∧ o.cls = .type "tuple" ∧ o.data = .seq #[.int x t, .ref b] n
theorem IsNT.keeps {h h' : Heap} {v : Value} {x : Int} (p : IsNT h v x) (k : ∀ b o, h.get? b = some o → o.cls = .type "tuple" → h'.get? b = some o) : IsNT h' v x :=
  let ⟨a, o, t, u, n, e, ho, hc, hd⟩ := p; ⟨a, o, t, u, n, e, k _ _ ho hc, hc, hd⟩
theorem firsts_nt {h : Heap} : ∀ {vs : List Value}, (∀ v ∈ vs, ∃ x, IsNT h v x) → ∃ fs : List Value, PySem.W.KatTups h vs fs ∧ fs.length = vs.length ∧ ∀ f ∈ fs, ∃ x t, f = Value.int x t
  | [], _ => ⟨[], .nil, rfl, fun f hf => by cases hf⟩
  | v :: vs, hp => by
    obtain ⟨fs, h1, h2, h3⟩ := firsts_nt (vs := vs) fun v' hm => hp v' (List.mem_cons_of_mem _ hm)
    obtain ⟨x, a, o, t, b, n, rfl, ho, hc, hd⟩ := hp v (List.mem_cons_self ..)
    refine ⟨.int x t :: fs, .cons ho hc hd rfl h1, by rw [List.length_cons, List.length_cons, h2], fun f hf => ?_⟩
    rcases List.mem_cons.mp hf with rfl | hf
    · exact ⟨x, t, rfl⟩
    · exact h3 f hf
section
variable {prog : Program} {w : World} {A : Around} {s : Shared}
theorem swo_k (k : Value → Int) : Swo fun v u => decide (k v < k u) := ⟨fun x y h => by simp at *; omega, fun x y z h1 h2 => by simp at *; omega⟩
theorem nt_cmp {vs : List Value} {k : Value → Int} (hp : ∀ v ∈ vs, IsNT s.heap v (k v)) (inj : ∀ v ∈ vs, ∀ u ∈ vs, k v = k u → v = u) : Cmp prog w A s (tuples' true) (fun p => p.1 ∈ vs) (lt2 fun v u => decide (k v < k u)) := by
  intro p q hm hm'
  have h1 := hp _ hm
  have h2 := hp _ hm'
  have hi := inj _ hm _ hm'
  show wpAny (model prog w) A (keyLt' (tuples' true) p.1 q.1) (fun r s' => s' = s ∧ r = decide (k p.1 < k q.1)) (fun _ _ => False) s
  generalize k p.1 = x at h1 hi ⊢
  generalize k q.1 = y at h2 hi ⊢
  obtain ⟨a, o, t, b, n, e, ho, hc, hd⟩ := h1
  obtain ⟨a', o', t', b', n', e', ho', hc', hd'⟩ := h2
  rw [e, e']
  refine PySem.W.kat_lt ho hd ho' hd' ?_
  show PySem.W.KatLex prog w A true (decide (2 < 2)) _ [(.int x t, .int y t'), (.ref b, .ref b')] 0 s
  refine PySem.W.kat_cons (SeqAt.EqAt.int_int x t y t' prog w _ _ ?_)
  refine PySem.W.kat_go (fun e1 => ?_) (fun e1 => ?_)
  · have ex : x = y := by simpa using e1
    have ea : a = a' := by
      have := hi ex
      rw [e, e'] at this
      injection this
    subst ea
    rw [ho] at ho'
    injection ho' with ho'
    subst ho'
    rw [hd] at hd'
    injection hd' with hd' _
    have eb : b = b' := by
      have := congrArg (fun z : Array Value => z[1]?) hd'
      simpa using this
    subst eb
    refine PySem.W.kat_yes (PySem.W.kat_cons (SeqAt.EqAt.same _ prog w _ _ ?_))
    refine PySem.W.kat_go (fun e2 => ?_) (fun e2 => by cases e2)
    refine PySem.W.kat_yes (PySem.W.kat_nil ⟨rfl, ?_⟩)
    rw [ex]
    simp
  · exact PySem.W.kat_no (oneLt_int ⟨rfl, rfl⟩)
theorem nt_sortable {a : Addr} {vs : List Value} {k : Value → Int} (h0 : 0 < vs.length) (hp : ∀ v ∈ vs, IsNT s.heap v (k v)) (inj : ∀ v ∈ vs, ∀ u ∈ vs, k v = k u → v = u) (ha : ∀ o, s.heap.get? a = some o → o.cls ≠ .type "tuple") :
    SortableO prog w A s a vs fun v u => decide (k v < k u) := by
  intro h' keep
  have hp' : ∀ v ∈ vs, IsNT h' v (k v) := fun v hm => (hp v hm).keeps fun b o e c => keep b o (fun z => by subst z; exact ha o e c) e
  obtain ⟨fs, h1, h2, h3⟩ := firsts_nt fun v hm => ⟨_, hp' v hm⟩
  refine ⟨tuples' true, fun Q E hq => ?_, nt_cmp hp' inj⟩
  refine PySem.W.kat_kind (T := .type "int") h1 (by omega) (fun f hm => ?_) (by rfl) ?_
  · obtain ⟨x, t, rfl⟩ := h3 f hm
    exact PySem.W.Looks.now
  · have e : (Value.type "int" != Value.type "tuple") = true := by first | decide +kernel | rfl | decide
    rw [e]
    exact hq
end
end LO
namespace LH
open PySem PySem.Spec PyProof.Rows L2
/-- sorted of tuples (number, thing), the numbers all different -/
def rSortedNT (K : PySem.W.Frag) : List V → Hp → VK → Prop := fun vs H Q => ∃ (a : Addr) (xs : List V) (k : V → Int), vs = [V.ref a] ∧ SqL K H a xs ∧ (∀ x ∈ xs, ∃ t b, x = V.ref t ∧ H t = some (.tup [.int (k x), .ref b])) ∧ (∀ x ∈ xs, ∀ y ∈ xs, k x = k y → x = y) ∧
  ∀ ys p, ys.Perm xs → (ys.map k).Pairwise (· ≤ ·) → H p = none → Q (.ref p) (upd H p (.lst ys))
section
variable {X : Cx}
theorem cr_sortedNT : CallR X (.builtin "sorted") (rSortedNT X.K) := by
  intro pins s σ H vs us Q I r h
  obtain ⟨a, xs, k, rfl, hs, hx, hi, q⟩ := h
  obtain ⟨its, rv, hl, hz⟩ := I.list hs
  obtain ⟨u, rfl, ru⟩ := vals1 r
  obtain rfl : u = Value.ref a := ru
  obtain ⟨e1, e2⟩ := refs_back rv fun x m => by
    obtain ⟨t, b, e, _⟩ := hx x m
    exact ⟨t, e⟩
  have inX : ∀ v ∈ its, backV v ∈ xs := fun v hv => by rw [e1]; exact List.mem_map.mpr ⟨v, hv, rfl⟩
  have isN : ∀ v ∈ its, LO.IsNT s.heap v (k (backV v)) := fun v hv => by
    obtain ⟨t, rfl⟩ := e2 v hv
    obtain ⟨t', b, e, ht⟩ := hx _ (inX _ hv)
    cases e
    obtain ⟨_, its2, r2, o, ho, hc, n, hd⟩ := I.hok _ _ ht
    obtain ⟨u1, u2, rfl, ri, rj⟩ := vals2 r2
    obtain ⟨t1, rfl⟩ := ri
    obtain rfl : u2 = Value.ref b := rj
    exact ⟨t, o, t1, b, n, rfl, ho, hc, hd⟩
  refine SrtO.sorted_ord (ltv := fun v u => decide (k (backV v) < k (backV u))) (LO.swo_k _) hl.isList (by rw [← rv.length]; exact hz) (fun h2 h₁ d hd kk => ?_) fun out hs hb => ?_
  · refine LO.nt_sortable (k := fun u => k (backV u)) (s := { s with heap := h₁ }) (by omega) (fun v hm => (isN v hm).keeps fun b o e _ => (kk b o e).2) (fun v hv u hu e => ?_) fun o e => ?_
    · have := hi _ (inX v hv) _ (inX u hu) e
      obtain ⟨t, rfl⟩ := e2 v hv
      obtain ⟨t', rfl⟩ := e2 u hu
      cases this
      rfl
    · have e' : some o = some (seqObj "list" its.toArray 0) := e.symm.trans hd
      cases e'
      intro c
      exact absurd (Value.type.inj c) (by decide)
  · have h3 : ∀ u ∈ out, ∃ a, u = Value.ref a := fun u hu => e2 u (hb.perm.mem_iff.mp hu)
    have perm : (out.map backV).Perm xs := by rw [e1]; exact hb.perm.map _
    refine ⟨.ref (s.heap.objs.size + 1), upd H _ (.lst (out.map backV)), I.laid (t' := s.toks) (fun b o e => sortedAll_old e) (Nat.le_succ _) ⟨?_, out, _, vals_back h3, (sortedAll_at s.heap its out.toArray).choose_spec⟩, rfl, q _ _ perm ?_ (I.hok.fresh (Nat.le_succ _))⟩
    · rw [perm.length_eq]
      exact hz
    · rw [List.map_map]
      refine List.pairwise_map.mpr (List.Pairwise.imp (fun h => ?_) hs)
      have h : decide (k (backV _) < k (backV _)) = false := h
      rw [decide_eq_false_iff_not] at h
      show k (backV _) ≤ k (backV _)
      omega
end
end LH
namespace LH
open PySem L2
theorem x_sortedNT {K : PySem.W.Frag} {H : Hp} {Q : VK} {a : Addr} {xs : List V} (f : V → Int) (h : SqL K H a xs) (hx : ∀ x ∈ xs, ∃ t b, x = V.ref t ∧ H t = some (.tup [.int (f x), .ref b])) (hi : ∀ x ∈ xs, ∀ y ∈ xs, f x = f y → x = y)
    (k : ∀ ys p H2, ys.Perm xs → (ys.map f).Pairwise (· ≤ ·) → H p = none → L2.Same H H2 → H2 p = some (.lst ys) → Q (.ref p) H2) : rSortedNT K [.ref a] H Q :=
  ⟨a, xs, f, rfl, h, hx, hi, fun ys p h1 h2 hp => k ys p _ h1 h2 hp (LH.Same.new hp) upd_same⟩
end LH
/-! readings by name: x in a list of data, dict == dict, dict(d), list(d), d.clear() -/
namespace LH
open PySem L2
theorem takesB0 {X : Cx} : L2.Takes X (fun _ _ _ _ => False) := fun _ _ x => by
  obtain ⟨_, _, _, _, _, _, _, _, _, _, _, _, _, _, _, _, z⟩ := x
  exact z.elim
theorem units65 {k : Nat} {A : Around} (r : Room k A) : A.units + 65 < cLine := by have := r.un; omega
section
variable {K : PySem.W.Frag} {σ : L2.St} {H : Hp} {Q : VK} {te : TE} {x y : V} {a : Addr}
theorem x_inD {d : PyData} {ds : List PyData} (hx : Dp K H x d) (hy : Dp K H y (.list ds)) (s1 : SeqAt.shaped d = true) (s2 : SeqAt.shaped (.list ds) = true) (q : Q (.bl (ds.any fun z => PyData.eqv z d)) H) : rInD K x y H Q := ⟨d, ds, hx, hy, s1, s2, q⟩
theorem x_eqDA {a b : Addr} {ks ls : List (Key × V)} (h1 : H a = some (.dK ks)) (h2 : H b = some (.dK ls)) (l : ks.length = ls.length) (e : ∀ p ∈ ks, valV ls p.1 = some p.2 ∧ flatB p.2 = true) (q : Q (.bl true) H) : rEqDA (.ref a) (.ref b) H Q := ⟨a, b, ks, ls, rfl, rfl, h1, h2, l, e, q⟩
theorem x_neDA {a b : Addr} {ks ls : List (Key × V)} (h1 : H a = some (.dK ks)) (h2 : H b = some (.dK ls)) (l : ks.length = ls.length) (e : ∀ p ∈ ks, valV ls p.1 = some p.2 ∧ flatB p.2 = true) (q : Q (.bl false) H) : rNeDA (.ref a) (.ref b) H Q := ⟨a, b, ks, ls, rfl, rfl, h1, h2, l, e, q⟩
def rDictD : List V → Hp → VK → Prop := fun xs H Q => ∃ (a : Addr) (kvs : List (Key × V)), xs = [.ref a] ∧ Rd H a (.dK kvs) ∧ ∀ p, H p = none → Q (.ref p) (upd H p (.dK kvs))
theorem call_dictD0 {X : Cx} : CallR X (.type "dict") rDictD := call_dictD
theorem x_dictD {kvs : List (Key × V)} (h : H a = some (.dK kvs)) (k : ∀ p H2, H p = none → L2.Same H H2 → H2 p = some (.dK kvs) → Q (.ref p) H2) : rDictD [.ref a] H Q := ⟨a, kvs, rfl, .inl h, fun p hp => k p _ hp (LH.Same.new hp) upd_same⟩
theorem x_listDK {kvs : List (Key × V)} (h : H a = some (.dK kvs)) (k : ∀ p H2, H p = none → L2.Same H H2 → H2 p = some (.lst (kvs.map fun kv => kV kv.1)) → Q (.ref p) H2) : rListD [.ref a] H Q := ⟨a, kvs, rfl, h, fun p hp => k p _ hp (LH.Same.new hp) upd_same⟩
def DclV (K : PySem.W.Frag) (x : V) (H1 : Hp) (Q : VK) : Prop := tyV K "dict" x H1 ∧ rDClear x [] H1 Q
theorem pe_dclearN {X : Cx} {o : Expr} {apos cpos : Pos} {to : TE} (ho : PE X o to) (hbase : attributeBase o "clear" X.env (eval o X.env) = eval o X.env := by rfl) (hline : (apos.endLine == cpos.line) = true := by rfl) : PE X (.Call (.Attribute o "clear" apos) [] [] cpos) (tBM0 X.K "dict" rDClear to) := pe_dclear ho hbase hline
end
end LH
/-! a for over a dict's keys, the dict locked meanwhile -/
namespace LH
open PySem L2
theorem lock_keys {i : Nat} {d : Addr} {kvs : List (Key × V)} {g : TG} {tb : TS} {D : Ends} {σ : L2.St} {H : Hp} (hv : σ[i]? = some (some (.ref d))) (hd : H d = some (.dK kvs)) (Pv : Obj → Nat → L2.St → Hp → Prop)
    (h0 : ∀ od, Pv od 0 σ (upd H d (.frz od (.dK kvs)))) (hl : ∀ od n σ H, Pv od n σ H → H d = some (.frz od (.dK kvs)))
    (hs : ∀ od n k v σ H, kvs[n]? = some (k, v) → Pv od n σ H → g (kV k) σ H fun σ2 H2 => tb { nx := Pv od (n + 1), rt := fun v H' => H' d = some (.frz od (.dK kvs)) ∧ D.rt v (upd H' d (.dK kvs)), ct := Pv od (n + 1), bk := fun σ' H' => H' d = some (.frz od (.dK kvs)) ∧ D.nx σ' (upd H' d (.dK kvs)) } σ2 H2)
    (he : ∀ od σ H, Pv od kvs.length σ H → D.nx σ (upd H d (.dK kvs))) : tLock (tFor (iKeys (tVar i)) g tb) D σ H := by
  refine ⟨d, .dK kvs, hd, trivial, fun od => ?_⟩
  refine ⟨_, hv, d, od, rfl, .inl ⟨kvs, upd_same, ?_⟩⟩
  refine ⟨fun n m σ' H' => m = kvs.length - n ∧ n ≤ kvs.length ∧ Pv od n σ' H', ⟨kvs.length, by simp, Nat.zero_le _, h0 od⟩, ?_⟩
  rintro n m σ' H' ⟨rfl, hn, p⟩
  have hd' := hl od n σ' H' p
  by_cases hlt : n < kvs.length
  · refine .inr ⟨⟨hd', hlt⟩, Pv od (n + 1), fun σ2 H2 p2 => ⟨kvs.length - (n + 1), by omega, rfl, hlt, p2⟩, fun x H2 y => ?_⟩
    obtain ⟨rfl, k, v, e, rfl⟩ := y
    exact hs od n k v σ' _ e p
  · have e : n = kvs.length := by omega
    subst e
    exact .inl ⟨⟨hd', Nat.le_refl _⟩, hd', he od σ' H' p⟩
end LH
/-! a house's hearing told by lists only -/
namespace HM
open PySem L2 LM
/-- what a house marked are the numbers of its own marks -/
def Mine (st : HS) : Prop := ∀ n, n ∈ st.marked ↔ ∃ u ∈ st.known, u.k = "mark" ∧ u.n = n ∧ u.h = st.own
theorem Mine.new (c own : Int) : Mine (HS.new c own) := fun n => ⟨(fun h => nomatch h), fun ⟨u, h, _⟩ => nomatch h⟩
theorem Mine.learn {st : HS} {w : Wrd} (m : Mine st) (o : ¬ (w.k = "mark" ∧ w.h = st.own)) : Mine (st.learn w) := fun n => by
  show n ∈ st.marked ↔ ∃ u ∈ HM.learn st.known w, u.k = "mark" ∧ u.n = n ∧ u.h = st.own
  rw [m n]
  constructor
  · rintro ⟨u, h1, h2⟩
    exact ⟨u, mem_learn.mpr (.inl h1), h2⟩
  · rintro ⟨u, h1, h2⟩
    rcases mem_learn.mp h1 with h1 | rfl
    · exact ⟨u, h1, h2⟩
    · exact absurd ⟨h2.1, h2.2.2⟩ o
theorem Mine.mark {st : HS} {w : Wrd} (m : Mine st) : Mine (st.mark w) := by
  unfold HS.mark
  split
  · intro n
    show n ∈ st.marked ++ [w.n] ↔ ∃ u ∈ HM.learn st.known (markOf st.own w), u.k = "mark" ∧ u.n = n ∧ u.h = st.own
    rw [List.mem_append, List.mem_singleton, m n]
    constructor
    · rintro (⟨u, h1, h2⟩ | rfl)
      · exact ⟨u, mem_learn.mpr (.inl h1), h2⟩
      · exact ⟨markOf st.own w, mem_learn.mpr (.inr rfl), rfl, rfl, rfl⟩
    · rintro ⟨u, h1, h2⟩
      rcases mem_learn.mp h1 with h1 | rfl
      · exact .inl ⟨u, h1, h2⟩
      · exact .inr h2.2.1.symm
  · exact m
theorem Mine.write {st : HS} {w : Wrd} (m : Mine st) : Mine (st.write w) := by
  unfold HS.write
  split
  · exact m
  · exact m
theorem Mine.name {st : HS} {w : Wrd} (m : Mine st) : Mine (st.name w) := by
  unfold HS.name
  split
  · exact m
  · exact m
theorem Mine.hear {st : HS} {w : Wrd} (m : Mine st) (o : ¬ (w.k = "mark" ∧ w.h = st.own)) : Mine (st.hear w) := by
  unfold HS.hear
  split
  · exact m
  · exact (m.learn o).mark.write.name
theorem learn_new {l : List Wrd} {w : Wrd} (h : w ∉ l) : HM.learn l w = l ++ [w] := by
  unfold HM.learn
  rw [if_neg h]
/-- what is marked anew was not known -/
theorem mark_fresh {st : HS} {w : Wrd} (m : Mine st) (h : (st.learn w).marks w = true) (o : ¬ (w.k = "mark" ∧ w.h = st.own)) : markOf st.own w ∉ (st.learn w).known := fun q => by
  unfold HS.marks at h
  rw [Bool.and_eq_true, Bool.not_eq_true', decide_eq_false_iff_not] at h
  exact h.2 ((m.learn o w.n).mpr ⟨_, q, rfl, rfl, rfl⟩)
/-- what is known after a word unheard of -/
theorem known_new {st : HS} {w : Wrd} (m : Mine st) (n : w ∉ st.known) (o : ¬ (w.k = "mark" ∧ w.h = st.own)) : ((st.learn w).mark w).known = st.known ++ [w] ++ (st.learn w).markT w := by
  have e1 : (st.learn w).known = st.known ++ [w] := learn_new n
  unfold HS.mark HS.markT
  split
  · next h =>
    show HM.learn (st.learn w).known (markOf st.own w) = _
    rw [learn_new (mark_fresh m h o), e1]
    rfl
  · rw [e1, List.append_nil]
/-- the first at the place: what stood there, or the word itself -/
theorem first_new {st : HS} {w : Wrd} (m : Mine st) (n : w ∉ st.known) (o : ¬ (w.k = "mark" ∧ w.h = st.own)) : (((st.learn w).mark w).write w).first w = ((st.known.filter fun u => decide (u.pl = w.pl)).head?).getD w := by
  unfold HS.first
  rw [write_known, known_new m n o, List.append_assoc, List.find?_append, find_filter]
  cases e : (st.known.filter fun u => decide (u.pl = w.pl)).head? with
  | some u => rfl
  | none =>
    rw [Option.none_or, List.singleton_append, List.find?_cons, decide_eq_true (rfl : w.pl = w.pl)]
    rfl
theorem first_old {st : HS} {w u : Wrd} (n : w ∉ st.known) (e : (st.known.filter fun u => decide (u.pl = w.pl)).head? = some u) : ¬ u = w := fun q => by
  have : u ∈ st.known.filter fun u => decide (u.pl = w.pl) := List.mem_of_mem_head? (by rw [e]; rfl)
  rw [q] at this
  exact n (List.mem_filter.mp this).1
/-- whether a house is named -/
theorem names_new {st : HS} {w : Wrd} (m : Mine st) (n : w ∉ st.known) (o : ¬ (w.k = "mark" ∧ w.h = st.own)) :
    (((st.learn w).mark w).write w).names w = ((!(st.known.filter fun u => decide (u.pl = w.pl)).isEmpty) && !decide (w.h ∈ st.named.map (·.1))) := by
  unfold HS.names
  rw [first_new m n o]
  have e1 : (((st.learn w).mark w).write w).named = st.named := by
    unfold HS.write
    split
    · show ((st.learn w).mark w).named = _
      unfold HS.mark
      split <;> rfl
    · unfold HS.mark
      split <;> rfl
  rw [e1]
  cases e : (st.known.filter fun u => decide (u.pl = w.pl)) with
  | nil => simp
  | cons u l =>
    have := first_old n (u := u) (by rw [e]; rfl)
    simp [this]
/-- whether it marks: a say, and no mark of its own at the number -/
theorem marks_new {st : HS} {w : Wrd} (m : Mine st) (o : ¬ (w.k = "mark" ∧ w.h = st.own)) :
    (st.learn w).marks w = (decide (w.k = "say") && ((st.learn w).known.filter fun u : Wrd => decide (u.k = ("mark" : Str)) && (decide (u.n = w.n) && decide (u.h = st.own))).isEmpty) := by
  unfold HS.marks
  congr 1
  have hm := m.learn o w.n
  cases e : ((st.learn w).known.filter fun u : Wrd => decide (u.k = ("mark" : Str)) && (decide (u.n = w.n) && decide (u.h = st.own))) with
  | nil =>
    rw [decide_eq_false fun q => ?_]
    · rfl
    · obtain ⟨u, h1, h2, h3, h4⟩ := hm.mp q
      have : u ∈ ((st.learn w).known.filter fun u : Wrd => decide (u.k = ("mark" : Str)) && (decide (u.n = w.n) && decide (u.h = st.own))) := List.mem_filter.mpr ⟨h1, by
        have h4 : u.h = st.own := h4
        simp [h2, h3, h4]⟩
      rw [e] at this
      cases this
  | cons u l =>
    have hu : u ∈ ((st.learn w).known.filter fun u : Wrd => decide (u.k = ("mark" : Str)) && (decide (u.n = w.n) && decide (u.h = st.own))) := by rw [e]; exact List.mem_cons_self ..
    obtain ⟨h1, h2⟩ := List.mem_filter.mp hu
    simp only [Bool.and_eq_true, decide_eq_true_eq] at h2
    rw [decide_eq_true (hm.mpr ⟨u, h1, h2.1, h2.2.1, h2.2.2⟩)]
    rfl
end HM
/-! things that are held with their copies: pairs of two equal things -/
namespace LM
open PySem L2
section
variable {K : PySem.W.Frag}
/-- two equal things: of data, or dicts of flat values -/
def EqX (K : PySem.W.Frag) (H : Hp) (a b : V) : Prop := (∃ d, Dp K H a d ∧ Dp K H b d ∧ SeqAt.shaped d = true) ∨ ∃ p q kvs, a = .ref p ∧ b = .ref q ∧ H p = some (.dK kvs) ∧ H q = some (.dK kvs) ∧ (kvs.map (·.1)).Nodup ∧ ∀ e ∈ kvs, flatB e.2 = true
theorem EqX.up {H H' : Hp} {a b : V} (e : Same H H') (h : EqX K H a b) : EqX K H' a b := by
  rcases h with ⟨d, h1, h2, h3⟩ | ⟨p, q, kvs, h1, h2, h3, h4, h5, h6⟩
  · exact .inl ⟨d, dp_up e h1, dp_up e h2, h3⟩
  · exact .inr ⟨p, q, kvs, h1, h2, e _ _ h3, e _ _ h4, h5, h6⟩
theorem EqX.ne {H : Hp} {a b : V} {Q : VK} (h : EqX K H a b) (q : Q (.bl false) H) : LH.rNeX K a b H Q := by
  rcases h with ⟨d, h1, h2, h3⟩ | ⟨p, r, kvs, rfl, rfl, h3, h4, h5, h6⟩
  · refine .inl ⟨d, d, h1, h2, h3, h3, ?_⟩
    have e : PyData.eqv d d = true := by
      unfold SeqAt.shaped at h3
      rw [Bool.and_eq_true] at h3
      exact SeqAt.eqv_refl _ h3.1
    rw [e]
    exact q
  · exact .inr ⟨p, r, kvs, kvs, rfl, rfl, h3, h4, rfl, fun e he => ⟨HM.valV_self h5 e he, h6 e he⟩, q⟩
/-- a pair that is held -/
def Hd (K : PySem.W.Frag) (H : Hp) (x : V) : Prop := ∃ t a b, x = .ref t ∧ H t = some (.tup [a, b]) ∧ EqX K H a b
theorem Hd.up {H H' : Hp} {x : V} (e : Same H H') (h : Hd K H x) : Hd K H' x := let ⟨t, a, b, h1, h2, h3⟩ := h; ⟨t, a, b, h1, e _ _ h2, h3.up e⟩
theorem dp_ints {H : Hp} : ∀ ns : List Int, DpAll K H (ns.map V.int) (ns.map PyData.int)
  | [] => .nil
  | n :: ns => .cons (.int n) (dp_ints ns)
theorem lay_ints (ns : List Int) : Lay 2 (.list (ns.map PyData.int)) := lay_list fun d hd => by
  obtain ⟨n, _, rfl⟩ := List.mem_map.mp hd
  exact lay_int _
theorem fr_put {M : List Addr} {H : Hp} {d : Addr} {o : HO} (m : d ∈ M) : Same (LH.Fr M H) (LH.Fr M (upd H d o)) := fun b u h => by
  obtain ⟨h1, h2⟩ := LH.fr_some h
  exact LH.fr_of (by rw [upd_ne (fun e : b = d => h2 (by rw [e]; exact m))]; exact h1) h2
end
end LM
namespace LH
open PySem L2
section
variable {K : PySem.W.Frag} {σ : L2.St} {H : Hp} {Q : VK} {te : TE}
def Bm0V (K : PySem.W.Frag) (T : String) (r : V → List V → Hp → VK → Prop) (x : V) (H1 : Hp) (Q : VK) : Prop := tyV K T x H1 ∧ r x [] H1 Q
theorem x_bm0 {T : String} {r : V → List V → Hp → VK → Prop} (h : te σ H fun x H1 => Bm0V K T r x H1 Q) : tBM0 K T r te σ H Q := h
theorem bm0_l {r : V → List V → Hp → VK → Prop} {p : Addr} {xs : List V} (h : SqL K H p xs) (q : r (.ref p) [] H Q) : Bm0V K "list" r (.ref p) H Q := ⟨.inl ⟨rfl, _, h⟩, q⟩
theorem bm0_dc {p : Addr} {kvs : List (Key × V)} (h : H p = some (.dK kvs)) (q : ∀ H', Kp p H H' → Q .non H') : Bm0V K "dict" rDClear (.ref p) H Q := ⟨.inr (.inr (.inl ⟨rfl, .inl ⟨_, h⟩⟩)), p, kvs, rfl, rfl, h, q _ Kp.upd⟩
end
end LH
namespace LH
open PySem L2
section
variable {K : PySem.W.Frag} {σ : L2.St} {H : Hp} {Q : VK} {te : TE} {t : TT}
theorem fr_upd {D : Addr} {H : Hp} {o : HO} : Fr [D] (L2.upd H D o) = Fr [D] H := by
  funext b
  unfold Fr
  by_cases c : b ∈ [D]
  · rw [if_pos c, if_pos c]
  · rw [if_neg c, if_neg c, upd_ne fun e => c (List.mem_singleton.mpr e)]
/-- a comprehension over a list, what stands beside the new list told by P -/
theorem lc_LI {a : Addr} {xs : List V} {j : Nat} {vs : List Nat} (hx : SqL K H a xs) (hz : xs.length ≤ 100000) (P : Nat → List V → Hp → Prop)
    (hw : ∀ x, wipe ((wipe σ vs).set j (some x)) vs = wipe σ vs) (h0 : ∀ D, H D = none → P 0 [] (Fr [D] H))
    (ht : ∀ (i : Nat) x, xs[i]? = some x → ∀ H1 (Q : Bool → Hp → Prop), Q true H1 → t ((wipe σ vs).set j (some x)) H1 Q)
    (he : ∀ (i : Nat) x ys D H1, xs[i]? = some x → L2.Same H (Fr [D] H1) → H1 D = some (.lst ys) → P i ys (Fr [D] H1) → ∀ Q : VK, (∀ y H2, L2.Same H1 H2 → P (i + 1) (ys ++ [y]) (Fr [D] H2) → Q y H2) → te ((wipe σ vs).set j (some x)) H1 Q)
    (k : ∀ D H2 ys, H D = none → L2.Same H H2 → H2 D = some (.lst ys) → P xs.length ys (Fr [D] H2) → Q (.ref D) H2) : LcV K (gName j) t te vs σ (.ref a) H Q := by
  refine ⟨a, rfl, ⟨xs, hx⟩, fun D hD => ?_⟩
  refine lc_list (xs := xs) (fun i H' => L2.Same H (Fr [D] H') ∧ ∃ ys, H' D = some (.lst ys) ∧ ys.length ≤ i ∧ P i ys (Fr [D] H'))
    ⟨fr_same (M := []) hD (LH.Same.new hD), [], upd_same, Nat.le_refl _, by rw [fr_upd]; exact h0 D hD⟩ (fun i H' _ p => L2.Same.seq (p.1.trans fr_le) hx) ?_ ?_
  · rintro i x H' hi ⟨e0, ys, gD, ly, hy⟩
    have hlt : i < xs.length := (List.getElem?_eq_some_iff.mp hi).1
    refine ⟨hw x, ht i x hi _ _ ?_⟩
    rw [if_pos rfl]
    refine he i x ys D H' hi e0 gD hy _ fun y H3 e3 p3 => ⟨ys, e3 _ _ gD, sz' (by omega), ?_, ys ++ [y], upd_same, by rw [List.length_append]; exact Nat.add_le_add_right ly 1, ?_⟩
    · exact same_mut (e0.trans (same_fr e3)) Kp.upd
    · rw [fr_upd]
      exact p3
  · rintro H' ⟨e0, ys, gD, ly, hy⟩
    exact k D H' ys hD (e0.trans fr_le) gD hy
end
end LH
namespace K6
open PySem L2 LM HM
def top (i : Nat) : Stmt := PySem.Challenge.pw_latehouse_k06_an_honest_house.main.body.getD i (.Pass ⟨0, 0, 0, 0⟩)
abbrev s_is_whole : Stmt := top 8
abbrev N_is_whole : List Str := ["thing", "least", "most"]
theorem sc_is_whole : FnScope N_is_whole ["thing", "least", "most"] (defScope s_is_whole) := ⟨rfl, rfl, rfl, by decide +kernel, rfl, by decide +kernel, by decide +kernel⟩
abbrev s_check_count : Stmt := top 9
abbrev N_check_count : List Str := ["count"]
theorem sc_check_count : FnScope N_check_count ["count"] (defScope s_check_count) := ⟨rfl, rfl, rfl, by decide +kernel, rfl, by decide +kernel, by decide +kernel⟩
abbrev s_is_house : Stmt := top 10
abbrev N_is_house : List Str := ["count", "thing"]
theorem sc_is_house : FnScope N_is_house ["count", "thing"] (defScope s_is_house) := ⟨rfl, rfl, rfl, by decide +kernel, rfl, by decide +kernel, by decide +kernel⟩
abbrev s_most_liars : Stmt := top 11
abbrev N_most_liars : List Str := ["count"]
theorem sc_most_liars : FnScope N_most_liars ["count"] (defScope s_most_liars) := ⟨rfl, rfl, rfl, by decide +kernel, rfl, by decide +kernel, by decide +kernel⟩
abbrev s_enough : Stmt := top 12
abbrev N_enough : List Str := ["count"]
theorem sc_enough : FnScope N_enough ["count"] (defScope s_enough) := ⟨rfl, rfl, rfl, by decide +kernel, rfl, by decide +kernel, by decide +kernel⟩
abbrev s_is_row : Stmt := top 18
abbrev N_is_row : List Str := ["thing", "letter"]
theorem sc_is_row : FnScope N_is_row ["thing"] (defScope s_is_row) := ⟨rfl, rfl, rfl, by decide +kernel, rfl, by decide +kernel, by decide +kernel⟩
abbrev s_place : Stmt := top 19
abbrev N_place : List Str := ["word", "kind", "number", "row", "house"]
theorem sc_place : FnScope N_place ["word"] (defScope s_place) := ⟨rfl, rfl, rfl, by decide +kernel, rfl, by decide +kernel, by decide +kernel⟩
abbrev s_House___init__ : Stmt := inClass (top 21) 0
abbrev N_House___init__ : List Str := ["self", "count", "own"]
theorem sc_House___init__ : FnScope N_House___init__ ["self", "count", "own"] (defScope s_House___init__) := ⟨rfl, rfl, rfl, by decide +kernel, rfl, by decide +kernel, by decide +kernel⟩
abbrev s_House_call : Stmt := inClass (top 21) 1
abbrev N_House_call : List Str := ["self", "row", "say"]
theorem sc_House_call : FnScope N_House_call ["self", "row"] (defScope s_House_call) := ⟨rfl, rfl, rfl, by decide +kernel, rfl, by decide +kernel, by decide +kernel⟩
abbrev s_House_hear : Stmt := inClass (top 21) 2
abbrev N_House_hear : List Str := ["self", "word", "mark", "backing", "pair"]
theorem sc_House_hear : FnScope N_House_hear ["self", "word"] (defScope s_House_hear) := ⟨rfl, rfl, rfl, by decide +kernel, rfl, by decide +kernel, by decide +kernel⟩
abbrev s_House_ledger : Stmt := inClass (top 21) 3
abbrev N_House_ledger : List Str := ["self", "number"]
theorem sc_House_ledger : FnScope N_House_ledger ["self"] (defScope s_House_ledger) := ⟨rfl, rfl, rfl, by decide +kernel, rfl, by decide +kernel, by decide +kernel⟩
abbrev s_House_backing : Stmt := inClass (top 21) 4
abbrev N_House_backing : List Str := ["self", "number"]
theorem sc_House_backing : FnScope N_House_backing ["self", "number"] (defScope s_House_backing) := ⟨rfl, rfl, rfl, by decide +kernel, rfl, by decide +kernel, by decide +kernel⟩
abbrev s_House_caught : Stmt := inClass (top 21) 5
abbrev N_House_caught : List Str := ["self"]
theorem sc_House_caught : FnScope N_House_caught ["self"] (defScope s_House_caught) := ⟨rfl, rfl, rfl, by decide +kernel, rfl, by decide +kernel, by decide +kernel⟩
abbrev s_House__learn : Stmt := inClass (top 21) 6
abbrev N_House__learn : List Str := ["self", "word", "kind", "number", "row", "house", "marks"]
theorem sc_House__learn : FnScope N_House__learn ["self", "word"] (defScope s_House__learn) := ⟨rfl, rfl, rfl, by decide +kernel, rfl, by decide +kernel, by decide +kernel⟩
abbrev s_House__mark : Stmt := inClass (top 21) 7
abbrev N_House__mark : List Str := ["self", "word", "kind", "number", "row", "house", "mark"]
theorem sc_House__mark : FnScope N_House__mark ["self", "word"] (defScope s_House__mark) := ⟨rfl, rfl, rfl, by decide +kernel, rfl, by decide +kernel, by decide +kernel⟩
abbrev s_House__write : Stmt := inClass (top 21) 8
abbrev N_House__write : List Str := ["self", "word", "kind", "number", "row", "house", "marks", "marker"]
theorem sc_House__write : FnScope N_House__write ["self", "word"] (defScope s_House__write) := ⟨rfl, rfl, rfl, by decide +kernel, rfl, by decide +kernel, by decide +kernel⟩
abbrev s_House__name : Stmt := inClass (top 21) 9
abbrev N_House__name : List Str := ["self", "word", "house", "earliest"]
theorem sc_House__name : FnScope N_House__name ["self", "word"] (defScope s_House__name) := ⟨rfl, rfl, rfl, by decide +kernel, rfl, by decide +kernel, by decide +kernel⟩
abbrev s__law_at : Stmt := top 23
abbrev N__law_at : List Str := ["_law_script", "_law_k"]
theorem sc__law_at : FnScope N__law_at ["_law_script", "_law_k"] (defScope s__law_at) := ⟨rfl, rfl, rfl, by decide +kernel, rfl, by decide +kernel, by decide +kernel⟩
abbrev s__law_whole : Stmt := top 24
abbrev N__law_whole : List Str := ["_law_thing"]
theorem sc__law_whole : FnScope N__law_whole ["_law_thing"] (defScope s__law_whole) := ⟨rfl, rfl, rfl, by decide +kernel, rfl, by decide +kernel, by decide +kernel⟩
abbrev s__law_row : Stmt := top 25
abbrev N__law_row : List Str := ["_law_base", "_law_k", "_law_letters", "_law_turned_here", "_law_size", "_law_tail", "_law_j", "_law_at_here"]
theorem sc__law_row : FnScope N__law_row ["_law_base", "_law_k"] (defScope s__law_row) := ⟨rfl, rfl, rfl, by decide +kernel, rfl, by decide +kernel, by decide +kernel⟩
abbrev s__law_enough : Stmt := top 26
abbrev N__law_enough : List Str := ["_law_count", "_law_wanted"]
theorem sc__law_enough : FnScope N__law_enough ["_law_count"] (defScope s__law_enough) := ⟨rfl, rfl, rfl, by decide +kernel, rfl, by decide +kernel, by decide +kernel⟩
abbrev s__law_words : Stmt := top 27
abbrev N__law_words : List Str := ["_law_found", "_law_word_here"]
theorem sc__law_words : FnScope N__law_words ["_law_found"] (defScope s__law_words) := ⟨rfl, rfl, rfl, by decide +kernel, rfl, by decide +kernel, by decide +kernel⟩
abbrev s__law_own : Stmt := top 28
abbrev N__law_own : List Str := ["_law_count", "_law_house", "_law_own_here"]
theorem sc__law_own : FnScope N__law_own ["_law_count", "_law_house"] (defScope s__law_own) := ⟨rfl, rfl, rfl, by decide +kernel, rfl, by decide +kernel, by decide +kernel⟩
abbrev s__law_heard : Stmt := top 29
abbrev N__law_heard : List Str := ["_law_own_here", "_law_word_here", "_law_before", "_law_one", "_law_told", "_law_mine", "_law_backing", "_law_pair"]
theorem sc__law_heard : FnScope N__law_heard ["_law_own_here", "_law_word_here"] (defScope s__law_heard) := ⟨rfl, rfl, rfl, by decide +kernel, rfl, by decide +kernel, by decide +kernel⟩
abbrev s__law_word : Stmt := top 30
abbrev N__law_word : List Str := ["_law_cell", "_law_own_here", "_law_base", "_law_number", "_law_row_here", "_law_house"]
theorem sc__law_word : FnScope N__law_word ["_law_cell", "_law_own_here", "_law_base"] (defScope s__law_word) := ⟨rfl, rfl, rfl, by decide +kernel, rfl, by decide +kernel, by decide +kernel⟩
abbrev s__law_turned : Stmt := top 31
abbrev N__law_turned : List Str := ["_law_house", "_law_own_here", "_law_number"]
theorem sc__law_turned : FnScope N__law_turned ["_law_house", "_law_own_here"] (defScope s__law_turned) := ⟨rfl, rfl, rfl, by decide +kernel, rfl, by decide +kernel, by decide +kernel⟩
abbrev s__law_state : Stmt := top 32
abbrev N__law_state : List Str := ["_law_house", "_law_own_here", "_law_held", "_law_rows", "_law_names", "_law_one", "_law_number", "_law_backing"]
theorem sc__law_state : FnScope N__law_state ["_law_house", "_law_own_here", "_law_held"] (defScope s__law_state) := ⟨rfl, rfl, rfl, by decide +kernel, rfl, by decide +kernel, by decide +kernel⟩
abbrev s__law_unwritten : Stmt := top 33
abbrev N__law_unwritten : List Str := ["_law_house", "_law_number"]
theorem sc__law_unwritten : FnScope N__law_unwritten ["_law_house", "_law_number"] (defScope s__law_unwritten) := ⟨rfl, rfl, rfl, by decide +kernel, rfl, by decide +kernel, by decide +kernel⟩
abbrev s__law_deed : Stmt := top 34
abbrev N__law_deed : List Str := ["_law_house", "_law_own_here", "_law_cell", "_law_base", "_law_calls", "_law_row_here", "_law_number", "_law_word_here"]
theorem sc__law_deed : FnScope N__law_deed ["_law_house", "_law_own_here", "_law_cell", "_law_base", "_law_calls"] (defScope s__law_deed) := ⟨rfl, rfl, rfl, by decide +kernel, rfl, by decide +kernel, by decide +kernel⟩
abbrev s__law_great : Stmt := top 35
abbrev N__law_great : List Str := ["_law_count", "_law_house", "_law_one", "_law_own_here", "_law_other", "_law_word_here"]
theorem sc__law_great : FnScope N__law_great ["_law_count", "_law_house"] (defScope s__law_great) := ⟨rfl, rfl, rfl, by decide +kernel, rfl, by decide +kernel, by decide +kernel⟩
abbrev s_law : Stmt := top 36
abbrev N_law : List Str := ["_law_script", "_law_first", "_law_base", "_law_counts", "_law_owns", "_law_houses", "_law_own_here", "_law_calls", "_law_held", "_law_cell", "_law_at_here", "_law_told", "_law_due", "_law_k", "_law_pair"]
theorem sc_law : FnScope N_law ["_law_script"] (defScope s_law) := ⟨rfl, rfl, rfl, by decide +kernel, rfl, by decide +kernel, by decide +kernel⟩
structure Ad where
  (is_whole check_count is_house most_liars enough is_row place House___init__ House_call House_hear House_ledger House_backing House_caught House__learn House__mark House__write House__name _law_at _law_whole _law_row _law_enough _law_words _law_own _law_heard _law_word _law_turned _law_state _law_unwritten _law_deed _law_great law : Addr)
  (d_is_whole d_check_count d_is_house d_most_liars d_enough d_is_row d_place d_House___init__ d_House_call d_House_hear d_House_ledger d_House_backing d_House_caught d_House__learn d_House__mark d_House__write d_House__name d__law_at d__law_whole d__law_row d__law_enough d__law_words d__law_own d__law_heard d__law_word d__law_turned d__law_state d__law_unwritten d__law_deed d__law_great d_law : FuncData)
  (HouseError BadCount BadHouse BadRow NotWritten House : Addr)
  (t_MOST_HOUSES t_SAY t_MARK t_LONGEST_ROW t_LETTERS : Tok)
abbrev VEs : List Value := [.type "ValueError", .type "Exception", .type "BaseException", .type "object"]
structure Txt (K : PySem.W.Frag) (mg : Str → Option Value) (a : Ad) : Prop where
  F_is_whole : Fun K "is_whole" "is_whole" s_is_whole a.is_whole a.d_is_whole
  g_is_whole : mg "is_whole" = some (.ref a.is_whole)
  b_is_whole : Binds K a.d_is_whole ["thing", "least", "most"] []
  F_check_count : Fun K "check_count" "check_count" s_check_count a.check_count a.d_check_count
  g_check_count : mg "check_count" = some (.ref a.check_count)
  b_check_count : Binds K a.d_check_count ["count"] []
  F_is_house : Fun K "is_house" "is_house" s_is_house a.is_house a.d_is_house
  g_is_house : mg "is_house" = some (.ref a.is_house)
  b_is_house : Binds K a.d_is_house ["count", "thing"] []
  F_most_liars : Fun K "most_liars" "most_liars" s_most_liars a.most_liars a.d_most_liars
  g_most_liars : mg "most_liars" = some (.ref a.most_liars)
  b_most_liars : Binds K a.d_most_liars ["count"] []
  F_enough : Fun K "enough" "enough" s_enough a.enough a.d_enough
  g_enough : mg "enough" = some (.ref a.enough)
  b_enough : Binds K a.d_enough ["count"] []
  F_is_row : Fun K "is_row" "is_row" s_is_row a.is_row a.d_is_row
  g_is_row : mg "is_row" = some (.ref a.is_row)
  b_is_row : Binds K a.d_is_row ["thing"] []
  F_place : Fun K "place" "place" s_place a.place a.d_place
  g_place : mg "place" = some (.ref a.place)
  b_place : Binds K a.d_place ["word"] []
  F_House___init__ : Fun K "__init__" "House.__init__" s_House___init__ a.House___init__ a.d_House___init__
  me_House___init__ : Meth K a.House "__init__" a.House___init__
  b_House___init__ : Binds K a.d_House___init__ ["self", "count", "own"] []
  F_House_call : Fun K "call" "House.call" s_House_call a.House_call a.d_House_call
  me_House_call : Meth K a.House "call" a.House_call
  b_House_call : Binds K a.d_House_call ["self", "row"] []
  F_House_hear : Fun K "hear" "House.hear" s_House_hear a.House_hear a.d_House_hear
  me_House_hear : Meth K a.House "hear" a.House_hear
  b_House_hear : Binds K a.d_House_hear ["self", "word"] []
  F_House_ledger : Fun K "ledger" "House.ledger" s_House_ledger a.House_ledger a.d_House_ledger
  me_House_ledger : Meth K a.House "ledger" a.House_ledger
  b_House_ledger : Binds K a.d_House_ledger ["self"] []
  F_House_backing : Fun K "backing" "House.backing" s_House_backing a.House_backing a.d_House_backing
  me_House_backing : Meth K a.House "backing" a.House_backing
  b_House_backing : Binds K a.d_House_backing ["self", "number"] []
  F_House_caught : Fun K "caught" "House.caught" s_House_caught a.House_caught a.d_House_caught
  me_House_caught : Meth K a.House "caught" a.House_caught
  b_House_caught : Binds K a.d_House_caught ["self"] []
  F_House__learn : Fun K "_learn" "House._learn" s_House__learn a.House__learn a.d_House__learn
  me_House__learn : Meth K a.House "_learn" a.House__learn
  b_House__learn : Binds K a.d_House__learn ["self", "word"] []
  F_House__mark : Fun K "_mark" "House._mark" s_House__mark a.House__mark a.d_House__mark
  me_House__mark : Meth K a.House "_mark" a.House__mark
  b_House__mark : Binds K a.d_House__mark ["self", "word"] []
  F_House__write : Fun K "_write" "House._write" s_House__write a.House__write a.d_House__write
  me_House__write : Meth K a.House "_write" a.House__write
  b_House__write : Binds K a.d_House__write ["self", "word"] []
  F_House__name : Fun K "_name" "House._name" s_House__name a.House__name a.d_House__name
  me_House__name : Meth K a.House "_name" a.House__name
  b_House__name : Binds K a.d_House__name ["self", "word"] []
  F__law_at : Fun K "_law_at" "_law_at" s__law_at a._law_at a.d__law_at
  g__law_at : mg "_law_at" = some (.ref a._law_at)
  b__law_at : Binds K a.d__law_at ["_law_script", "_law_k"] []
  F__law_whole : Fun K "_law_whole" "_law_whole" s__law_whole a._law_whole a.d__law_whole
  g__law_whole : mg "_law_whole" = some (.ref a._law_whole)
  b__law_whole : Binds K a.d__law_whole ["_law_thing"] []
  F__law_row : Fun K "_law_row" "_law_row" s__law_row a._law_row a.d__law_row
  g__law_row : mg "_law_row" = some (.ref a._law_row)
  b__law_row : Binds K a.d__law_row ["_law_base", "_law_k"] []
  F__law_enough : Fun K "_law_enough" "_law_enough" s__law_enough a._law_enough a.d__law_enough
  g__law_enough : mg "_law_enough" = some (.ref a._law_enough)
  b__law_enough : Binds K a.d__law_enough ["_law_count"] []
  F__law_words : Fun K "_law_words" "_law_words" s__law_words a._law_words a.d__law_words
  g__law_words : mg "_law_words" = some (.ref a._law_words)
  b__law_words : Binds K a.d__law_words ["_law_found"] []
  F__law_own : Fun K "_law_own" "_law_own" s__law_own a._law_own a.d__law_own
  g__law_own : mg "_law_own" = some (.ref a._law_own)
  b__law_own : Binds K a.d__law_own ["_law_count", "_law_house"] []
  F__law_heard : Fun K "_law_heard" "_law_heard" s__law_heard a._law_heard a.d__law_heard
  g__law_heard : mg "_law_heard" = some (.ref a._law_heard)
  b__law_heard : Binds K a.d__law_heard ["_law_own_here", "_law_word_here"] []
  F__law_word : Fun K "_law_word" "_law_word" s__law_word a._law_word a.d__law_word
  g__law_word : mg "_law_word" = some (.ref a._law_word)
  b__law_word : Binds K a.d__law_word ["_law_cell", "_law_own_here", "_law_base"] []
  F__law_turned : Fun K "_law_turned" "_law_turned" s__law_turned a._law_turned a.d__law_turned
  g__law_turned : mg "_law_turned" = some (.ref a._law_turned)
  b__law_turned : Binds K a.d__law_turned ["_law_house", "_law_own_here"] []
  F__law_state : Fun K "_law_state" "_law_state" s__law_state a._law_state a.d__law_state
  g__law_state : mg "_law_state" = some (.ref a._law_state)
  b__law_state : Binds K a.d__law_state ["_law_house", "_law_own_here", "_law_held"] []
  F__law_unwritten : Fun K "_law_unwritten" "_law_unwritten" s__law_unwritten a._law_unwritten a.d__law_unwritten
  g__law_unwritten : mg "_law_unwritten" = some (.ref a._law_unwritten)
  b__law_unwritten : Binds K a.d__law_unwritten ["_law_house", "_law_number"] []
  F__law_deed : Fun K "_law_deed" "_law_deed" s__law_deed a._law_deed a.d__law_deed
  g__law_deed : mg "_law_deed" = some (.ref a._law_deed)
  b__law_deed : Binds K a.d__law_deed ["_law_house", "_law_own_here", "_law_cell", "_law_base", "_law_calls"] []
  F__law_great : Fun K "_law_great" "_law_great" s__law_great a._law_great a.d__law_great
  g__law_great : mg "_law_great" = some (.ref a._law_great)
  b__law_great : Binds K a.d__law_great ["_law_count", "_law_house"] []
  F_law : Fun K "law" "law" s_law a.law a.d_law
  g_HouseError : mg "HouseError" = some (.ref a.HouseError)
  g_BadCount : mg "BadCount" = some (.ref a.BadCount)
  g_BadHouse : mg "BadHouse" = some (.ref a.BadHouse)
  g_BadRow : mg "BadRow" = some (.ref a.BadRow)
  g_NotWritten : mg "NotWritten" = some (.ref a.NotWritten)
  g_House : mg "House" = some (.ref a.House)
  cl_House : Cls K a.House
  mk_House : Mk K a.House a.House___init__
  na_House__count : NoAttr K a.House "_count"
  na_House__own : NoAttr K a.House "_own"
  na_House__due : NoAttr K a.House "_due"
  na_House__known : NoAttr K a.House "_known"
  na_House__earliest : NoAttr K a.House "_earliest"
  na_House__marked : NoAttr K a.House "_marked"
  na_House__marks : NoAttr K a.House "_marks"
  na_House__rows : NoAttr K a.House "_rows"
  na_House__backings : NoAttr K a.House "_backings"
  na_House__named : NoAttr K a.House "_named"
  x_BadCount : PySem.W.excIn K a.BadCount VEs "ValueError.__new__" = true
  k_BadCount : PySem.W.keepIn K (.ref a.BadCount) = true
  bx_BadCount : PySem.W.subIn K (.ref a.BadCount) (.type "BaseException") = some true
  t_BadCount : PySem.W.typeIn K (.ref a.BadCount) = some (.type "type")
  e_BadCount : PySem.W.exmOne K (.ref a.BadCount) (.ref a.HouseError) = some true
  c_BadCount : ExcC K a.BadCount
  i_BadCount_BadCount : PySem.W.kitOne K (.ref a.BadCount) (.ref a.BadCount) = some true
  i_BadCount_BadHouse : PySem.W.kitOne K (.ref a.BadCount) (.ref a.BadHouse) = some false
  i_BadCount_BadRow : PySem.W.kitOne K (.ref a.BadCount) (.ref a.BadRow) = some false
  i_BadCount_BadWord : PySem.W.kitOne K (.ref a.BadCount) (.type "BadWord") = some false
  i_BadCount_Forged : PySem.W.kitOne K (.ref a.BadCount) (.type "Forged") = some false
  i_BadCount_NoLetter : PySem.W.kitOne K (.ref a.BadCount) (.type "NoLetter") = some false
  i_BadCount_NotWritten : PySem.W.kitOne K (.ref a.BadCount) (.ref a.NotWritten) = some false
  i_BadCount_NoText : PySem.W.kitOne K (.ref a.BadCount) (.type "NoText") = some false
  i_BadCount_ValueError : PySem.W.kitOne K (.ref a.BadCount) (.type "ValueError") = some true
  x_BadHouse : PySem.W.excIn K a.BadHouse VEs "ValueError.__new__" = true
  k_BadHouse : PySem.W.keepIn K (.ref a.BadHouse) = true
  bx_BadHouse : PySem.W.subIn K (.ref a.BadHouse) (.type "BaseException") = some true
  t_BadHouse : PySem.W.typeIn K (.ref a.BadHouse) = some (.type "type")
  e_BadHouse : PySem.W.exmOne K (.ref a.BadHouse) (.ref a.HouseError) = some true
  c_BadHouse : ExcC K a.BadHouse
  i_BadHouse_BadCount : PySem.W.kitOne K (.ref a.BadHouse) (.ref a.BadCount) = some false
  i_BadHouse_BadHouse : PySem.W.kitOne K (.ref a.BadHouse) (.ref a.BadHouse) = some true
  i_BadHouse_BadRow : PySem.W.kitOne K (.ref a.BadHouse) (.ref a.BadRow) = some false
  i_BadHouse_BadWord : PySem.W.kitOne K (.ref a.BadHouse) (.type "BadWord") = some false
  i_BadHouse_Forged : PySem.W.kitOne K (.ref a.BadHouse) (.type "Forged") = some false
  i_BadHouse_NoLetter : PySem.W.kitOne K (.ref a.BadHouse) (.type "NoLetter") = some false
  i_BadHouse_NotWritten : PySem.W.kitOne K (.ref a.BadHouse) (.ref a.NotWritten) = some false
  i_BadHouse_NoText : PySem.W.kitOne K (.ref a.BadHouse) (.type "NoText") = some false
  i_BadHouse_ValueError : PySem.W.kitOne K (.ref a.BadHouse) (.type "ValueError") = some true
  x_BadRow : PySem.W.excIn K a.BadRow VEs "ValueError.__new__" = true
  k_BadRow : PySem.W.keepIn K (.ref a.BadRow) = true
  bx_BadRow : PySem.W.subIn K (.ref a.BadRow) (.type "BaseException") = some true
  t_BadRow : PySem.W.typeIn K (.ref a.BadRow) = some (.type "type")
  e_BadRow : PySem.W.exmOne K (.ref a.BadRow) (.ref a.HouseError) = some true
  c_BadRow : ExcC K a.BadRow
  i_BadRow_BadCount : PySem.W.kitOne K (.ref a.BadRow) (.ref a.BadCount) = some false
  i_BadRow_BadHouse : PySem.W.kitOne K (.ref a.BadRow) (.ref a.BadHouse) = some false
  i_BadRow_BadRow : PySem.W.kitOne K (.ref a.BadRow) (.ref a.BadRow) = some true
  i_BadRow_BadWord : PySem.W.kitOne K (.ref a.BadRow) (.type "BadWord") = some false
  i_BadRow_Forged : PySem.W.kitOne K (.ref a.BadRow) (.type "Forged") = some false
  i_BadRow_NoLetter : PySem.W.kitOne K (.ref a.BadRow) (.type "NoLetter") = some false
  i_BadRow_NotWritten : PySem.W.kitOne K (.ref a.BadRow) (.ref a.NotWritten) = some false
  i_BadRow_NoText : PySem.W.kitOne K (.ref a.BadRow) (.type "NoText") = some false
  i_BadRow_ValueError : PySem.W.kitOne K (.ref a.BadRow) (.type "ValueError") = some true
  x_NotWritten : PySem.W.excIn K a.NotWritten VEs "ValueError.__new__" = true
  k_NotWritten : PySem.W.keepIn K (.ref a.NotWritten) = true
  bx_NotWritten : PySem.W.subIn K (.ref a.NotWritten) (.type "BaseException") = some true
  t_NotWritten : PySem.W.typeIn K (.ref a.NotWritten) = some (.type "type")
  e_NotWritten : PySem.W.exmOne K (.ref a.NotWritten) (.ref a.HouseError) = some true
  es_NotWritten : PySem.W.exmOne K (.ref a.NotWritten) (.ref a.NotWritten) = some true
  c_NotWritten : ExcC K a.NotWritten
  i_NotWritten_BadCount : PySem.W.kitOne K (.ref a.NotWritten) (.ref a.BadCount) = some false
  i_NotWritten_BadHouse : PySem.W.kitOne K (.ref a.NotWritten) (.ref a.BadHouse) = some false
  i_NotWritten_BadRow : PySem.W.kitOne K (.ref a.NotWritten) (.ref a.BadRow) = some false
  i_NotWritten_BadWord : PySem.W.kitOne K (.ref a.NotWritten) (.type "BadWord") = some false
  i_NotWritten_Forged : PySem.W.kitOne K (.ref a.NotWritten) (.type "Forged") = some false
  i_NotWritten_NoLetter : PySem.W.kitOne K (.ref a.NotWritten) (.type "NoLetter") = some false
  i_NotWritten_NotWritten : PySem.W.kitOne K (.ref a.NotWritten) (.ref a.NotWritten) = some true
  i_NotWritten_NoText : PySem.W.kitOne K (.ref a.NotWritten) (.type "NoText") = some false
  i_NotWritten_ValueError : PySem.W.kitOne K (.ref a.NotWritten) (.type "ValueError") = some true
  m_MOST_HOUSES : mg "MOST_HOUSES" = some (.int 12 a.t_MOST_HOUSES)
  m_SAY : mg "SAY" = some (.str "say" a.t_SAY)
  m_MARK : mg "MARK" = some (.str "mark" a.t_MARK)
  m_LONGEST_ROW : mg "LONGEST_ROW" = some (.int 8 a.t_LONGEST_ROW)
  m_LETTERS : mg "LETTERS" = some (.str "abcdefghijklmnopqrstuvwxyz" a.t_LETTERS)
  n_abs : mg "abs" = none
  n_all : mg "all" = none
  n_bool : mg "bool" = none
  n_dict : mg "dict" = none
  n_int : mg "int" = none
  n_isinstance : mg "isinstance" = none
  n_len : mg "len" = none
  n_list : mg "list" = none
  n_range : mg "range" = none
  n_sorted : mg "sorted" = none
  n_str : mg "str" = none
  n_tuple : mg "tuple" = none
  n_type : mg "type" = none

local macro_rules | `(tactic| walk_at "rd1") => `(tactic| first
  | with_reducible refine LH.x_seq ?_
  | with_reducible refine LH.x_asg ?_
  | with_reducible refine LH.x_cons ?_
  | with_reducible refine LH.x_var (by with_unfolding_all exact rfl) ?_
  | with_reducible refine LH.x_c ?_
  | with_reducible refine LH.x_op ?_
  | with_reducible refine LH.x_gname ?_
  | with_reducible refine LH.x_nil ?_
  | with_reducible refine LH.x_I0 ?_
  | ((with_reducible refine LH.x_I ?k1 ?_); (case k1 => first | exact (by decide) | exact ⟨by decide, by decide⟩ | exact ⟨by decide, by decide, by decide⟩ | exact .inl ⟨by decide, by decide⟩ | exact .inr ⟨by decide, by decide⟩ | exact .inr ⟨by omega, by omega⟩ | exact .inl ⟨by omega, by omega⟩ | exact (by omega)))
  | with_reducible refine LH.x_ifS ?_
  | with_reducible refine LH.x_test ?_
  | with_reducible refine LH.x_tB ?_
  | with_reducible refine LH.bx ?_
  | with_reducible refine LH.x_and ?_
  | with_reducible refine LH.x_or ?_
  | with_reducible refine LH.x_not ?_
  | with_reducible refine LH.x_ret ?_
  | with_reducible refine LH.x_call ?_
  | with_reducible refine LH.x_cb ?_
  | with_reducible refine LH.x_lst ?_
  | with_reducible refine LH.x_tup ?_
  | with_reducible refine LH.x_bm ?_
  | with_reducible refine LH.x_drop ?_
  | with_reducible refine LH.x_next ?_
  | with_reducible refine LH.x_cont ?_
  | with_reducible refine LH.x_un ?_
  | with_reducible refine LH.x_U ?_
  | with_reducible refine LH.x_eq (by with_unfolding_all exact rfl) ?_
  | with_reducible refine LH.x_ne (by with_unfolding_all exact rfl) ?_
  | with_reducible refine LH.x_andV ?_
  | with_reducible refine LH.x_orV ?_
  | with_reducible refine LH.x_notV ?_
  | with_reducible refine LH.band ?_
  | with_reducible refine LH.bor ?_
  | with_reducible refine LH.x_if ?_
  | with_reducible refine LH.x_chain ?_
  | with_reducible refine LH.chk ?_
  | with_reducible refine LH.x_callS ?_
  | with_reducible refine LH.x_callE ?_
  | with_reducible refine LH.x_callV ?_
  | with_reducible refine LH.x_lrg ?_
  | with_reducible refine LH.x_lcS ?_
  | with_reducible refine LH.x_lcR1 ?_
  | with_reducible refine LH.x_forR1 ?_
  | with_reducible refine LH.x_forR3 ?_
  | with_reducible refine LH.strv ?_
  | with_reducible refine LH.x_yes ?_
  | with_reducible refine LH.x_sl ?_
  | with_reducible refine LH.x_noPart ?_
  | with_reducible refine LH.x_part ?_
  | with_reducible refine LH.pav ?_
  | with_reducible refine LH.x_jnv ?_
  | with_reducible refine LH.x_join ?_
  | with_reducible refine LH.x_inS ?_
  | with_reducible refine LH.x_niS ?_
  | with_reducible refine LH.x_isB ?_
  | with_reducible refine LH.x_isnB ?_
  | with_reducible refine LH.x_gcons ?_
  | with_reducible refine LH.x_gnil ?_
  | with_reducible refine LH.x_intB ?_
  | with_reducible refine LH.x_orT ?_
  | with_reducible refine LH.x_isTy ?_
  | with_reducible refine LH.x_niTy ?_
  | with_reducible refine LH.x_split ?_
  | with_reducible refine LH.x_spv ?_
  | with_reducible refine LH.x_gsub ?_
  | with_reducible refine LH.x_fmt ?_
  | with_reducible refine LH.x_js0 ?_
  | with_reducible refine LH.x_js ?_
  | with_reducible refine LH.x_rg1 ?_
  | with_reducible refine LH.x_forL ?_
  | with_reducible refine LH.x_abs ?_
  | with_reducible refine LH.x_rg2 ?_
  | with_reducible refine LH.rg1v ?_
  | with_reducible refine LH.rg2v ?_
  | with_reducible refine LH.x_forR2 ?_
  | with_reducible refine LH.x_lenSetG ?_
  | with_reducible refine LH.x_lc ?_
  | with_reducible refine LH.x_fld ?_
  | with_reducible refine LH.x_sfld ?_
  | with_reducible refine LH.x_afld ?_
  | with_reducible refine LH.x_meth ?_
  | with_reducible refine LH.x_make ?_
  | with_reducible refine LH.x_methSl ?_
  | with_reducible refine LH.x_makeSl ?_
  | with_reducible refine LH.x_din ?_
  | with_reducible refine LH.x_dni ?_
  | with_reducible refine LH.x_dget ?_
  | with_reducible refine LH.x_dput ?_
  | with_reducible refine LH.x_dget2 ?_
  | with_reducible refine LH.x_dpop1 ?_
  | with_reducible refine LH.x_litems ?_
  | with_reducible refine LH.x_tru ?_
  | with_reducible refine LH.x_revL ?_
  | with_reducible refine LH.x_dsetT ?_
  | with_reducible refine LH.x_lvals ?_
  | with_reducible refine LH.br_nt ?_
  | with_reducible refine LH.br_nf ?_
  | with_reducible refine LH.br_t ?_
  | with_reducible refine LH.br_f ?_)
local macro_rules | `(tactic| walk_at "rd") => `(tactic| repeat (walk_at "rd1"))
local macro_rules | `(tactic| walk_at "rs1") => `(tactic| first
  | with_reducible refine LH.x_seq ?_
  | with_reducible refine LH.x_cons ?_
  | with_reducible refine LH.x_var (by with_unfolding_all exact rfl) ?_
  | with_reducible refine LH.x_c ?_
  | with_reducible refine LH.x_op ?_
  | with_reducible refine LH.x_gname ?_
  | with_reducible refine LH.x_nil ?_
  | with_reducible refine LH.x_I0 ?_
  | ((with_reducible refine LH.x_I ?k1 ?_); (case k1 => first | exact (by decide) | exact ⟨by decide, by decide⟩ | exact ⟨by decide, by decide, by decide⟩ | exact .inl ⟨by decide, by decide⟩ | exact .inr ⟨by decide, by decide⟩ | exact .inr ⟨by omega, by omega⟩ | exact .inl ⟨by omega, by omega⟩ | exact (by omega)))
  | with_reducible refine LH.x_test ?_
  | with_reducible refine LH.x_tB ?_
  | with_reducible refine LH.bx ?_
  | with_reducible refine LH.x_and ?_
  | with_reducible refine LH.x_or ?_
  | with_reducible refine LH.x_not ?_
  | with_reducible refine LH.x_call ?_
  | with_reducible refine LH.x_cb ?_
  | with_reducible refine LH.x_lst ?_
  | with_reducible refine LH.x_tup ?_
  | with_reducible refine LH.x_bm ?_
  | with_reducible refine LH.x_next ?_
  | with_reducible refine LH.x_cont ?_
  | with_reducible refine LH.x_un ?_
  | with_reducible refine LH.x_U ?_
  | with_reducible refine LH.x_eq (by with_unfolding_all exact rfl) ?_
  | with_reducible refine LH.x_ne (by with_unfolding_all exact rfl) ?_
  | with_reducible refine LH.x_andV ?_
  | with_reducible refine LH.x_orV ?_
  | with_reducible refine LH.x_notV ?_
  | with_reducible refine LH.band ?_
  | with_reducible refine LH.bor ?_
  | with_reducible refine LH.x_if ?_
  | with_reducible refine LH.x_chain ?_
  | with_reducible refine LH.chk ?_
  | with_reducible refine LH.x_callS ?_
  | with_reducible refine LH.x_callE ?_
  | with_reducible refine LH.x_callV ?_
  | with_reducible refine LH.x_lrg ?_
  | with_reducible refine LH.x_lcS ?_
  | with_reducible refine LH.x_lcR1 ?_
  | with_reducible refine LH.strv ?_
  | with_reducible refine LH.x_yes ?_
  | with_reducible refine LH.x_sl ?_
  | with_reducible refine LH.x_noPart ?_
  | with_reducible refine LH.x_part ?_
  | with_reducible refine LH.pav ?_
  | with_reducible refine LH.x_jnv ?_
  | with_reducible refine LH.x_join ?_
  | with_reducible refine LH.x_inS ?_
  | with_reducible refine LH.x_niS ?_
  | with_reducible refine LH.x_isB ?_
  | with_reducible refine LH.x_isnB ?_
  | with_reducible refine LH.x_gcons ?_
  | with_reducible refine LH.x_gnil ?_
  | with_reducible refine LH.x_intB ?_
  | with_reducible refine LH.x_orT ?_
  | with_reducible refine LH.x_isTy ?_
  | with_reducible refine LH.x_niTy ?_
  | with_reducible refine LH.x_split ?_
  | with_reducible refine LH.x_spv ?_
  | with_reducible refine LH.x_gsub ?_
  | with_reducible refine LH.x_fmt ?_
  | with_reducible refine LH.x_js0 ?_
  | with_reducible refine LH.x_js ?_
  | with_reducible refine LH.x_rg1 ?_
  | with_reducible refine LH.x_abs ?_
  | with_reducible refine LH.x_rg2 ?_
  | with_reducible refine LH.rg1v ?_
  | with_reducible refine LH.rg2v ?_
  | with_reducible refine LH.x_lenSetG ?_
  | with_reducible refine LH.x_lc ?_
  | with_reducible refine LH.x_fld ?_
  | with_reducible refine LH.x_sfld ?_
  | with_reducible refine LH.x_afld ?_
  | with_reducible refine LH.x_meth ?_
  | with_reducible refine LH.x_make ?_
  | with_reducible refine LH.x_methSl ?_
  | with_reducible refine LH.x_makeSl ?_
  | with_reducible refine LH.x_din ?_
  | with_reducible refine LH.x_dni ?_
  | with_reducible refine LH.x_dget ?_
  | with_reducible refine LH.x_dput ?_
  | with_reducible refine LH.x_dget2 ?_
  | with_reducible refine LH.x_dpop1 ?_
  | with_reducible refine LH.x_litems ?_
  | with_reducible refine LH.x_tru ?_
  | with_reducible refine LH.x_revL ?_
  | with_reducible refine LH.x_dsetT ?_
  | with_reducible refine LH.x_lvals ?_
  | with_reducible refine LH.br_nt ?_
  | with_reducible refine LH.br_nf ?_
  | with_reducible refine LH.br_t ?_
  | with_reducible refine LH.br_f ?_)
local macro_rules | `(tactic| walk_at "rs") => `(tactic| repeat (walk_at "rs1"))

section
variable {P : Program} {w : World} {K : PySem.W.Frag} {mg : Str → Option Value} {base : Heap} {a : Ad}
def spWhole (K : PySem.W.Frag) : Sp := fun vs H Q _ => ∃ x T lo hi, vs = [x, .int lo, .int hi] ∧ TyB K H x T ∧ Q (.bl (isW x lo hi)) H
theorem ok_is_whole (T : Txt K mg a) : FnOk P w K mg base CX0 1 a.is_whole a.d_is_whole ["thing", "least", "most"] (spWhole K) := by
  refine T.F_is_whole.ok sc_is_whole (fun vs H Q E h => ?_) (fun cdv A outer s H vs Q E hr h => ?_)
  · obtain ⟨x, t, lo, hi, rfl, _⟩ := h
    rfl
  · obtain ⟨x, t, lo, hi, rfl, ht, k⟩ := h
    refine ⟨_, (pss_one (ps_ret (pe_and (pe_cmpR LH.op_isTy (pe_callTy (r := rTyp K) call_type1 rfl T.n_type (by decide +kernel) (pa_cons (pv 0) pa_nil)) (pe_bltn (v := .ty "int") rfl T.n_int (by decide +kernel) rfl) (nomark _)) (pe_one (pe_chain op_le op_le (pv 1) (pv 0) (pv 2)))))), ?_⟩
    walk_at "rd"
    refine LH.x_typ ht ?_
    walk_at "rd"
    cases ht with
    | int i =>
      refine LH.br_p rfl ?_
      walk_at "rd"
      by_cases c : lo ≤ i
      · refine LH.br_p c ?_
        walk_at "rd"
        simpa [isW, c] using k
      · refine LH.br_n c ?_
        simpa [isW, c] using k
    | _ => exact LH.br_n (by decide) k
def spCheck (K : PySem.W.Frag) (C : Addr) : Sp := fun vs H Q E => ∃ x T, vs = [x] ∧ TyB K H x T ∧ (isW x 1 12 = true → Q .non H) ∧ (isW x 1 12 = false → E (.ref C) none H)
theorem ok_check_count (T : Txt K mg a) : FnOk P w K mg base (L2N.CX P w) 2 a.check_count a.d_check_count ["count"] (spCheck K a.BadCount) := by
  have G_is_whole := ok_is_whole (P := P) (w := w) (base := base) T
  refine LH.okN T.F_check_count sc_check_count (fun vs H Q E h => ?_) (fun cdv A outer s H vs Q E hr h => ?_)
  · obtain ⟨x, t, rfl, _⟩ := h
    rfl
  · obtain ⟨x, t, rfl, ht, k1, k2⟩ := h
    have HR_is_whole : Room 1 _ := hr.mono (by decide)
    refine ⟨_, (pss_one (ps_if (pt_not (pt_val (pe_call G_is_whole HR_is_whole rfl T.g_is_whole T.F_is_whole.kp T.b_is_whole .nil pass0 (pa_cons (pv 0) (pa_cons pe_int (pa_cons (pe_glob (v := .int 12) rfl T.m_MOST_HOUSES ⟨_, rfl⟩) pa_nil))))))
    (pss_one (L2N.ps_raise rfl (LH.tkN (E := E)) (LH.pmkN PySem.F.excBase_ValueError T.x_BadCount T.g_BadCount T.k_BadCount (raises_own T.bx_BadCount T.t_BadCount) rfl (pa_cons (pe_joined (.cons pe_str (.cons (pe_fmt (pe_glob (v := .int 12) rfl T.m_MOST_HOUSES ⟨_, rfl⟩)) .nil))) pa_nil))))
    pss_nil)), ?_⟩
    walk_at "rd"
    refine ⟨x, t, 1, 12, rfl, ht, ?_⟩
    walk_at "rd"
    cases e : isW x 1 12 with
    | true =>
      refine LH.br_nt ?_
      walk_at "rd"
      exact k1 e
    | false =>
      refine LH.br_nf ?_
      refine ⟨_, rfl, by decide +kernel, Or.inr ⟨12, rfl, by decide, _, rfl, by decide +kernel, ?_⟩⟩
      exact ⟨by show 1 ≤ sizeLine; decide, k2 e⟩
def spHouse (K : PySem.W.Frag) : Sp := fun vs H Q _ => ∃ (c : Int) (x : V) (T : String), vs = [.int c, x] ∧ TyB K H x T ∧ Q (.bl (isW x 0 (c - 1))) H
theorem ok_is_house (T : Txt K mg a) : FnOk P w K mg base CX0 2 a.is_house a.d_is_house ["count", "thing"] (spHouse K) := by
  have G_is_whole := ok_is_whole (P := P) (w := w) (base := base) T
  refine T.F_is_house.ok sc_is_house (fun vs H Q E h => ?_) (fun cdv A outer s H vs Q E hr h => ?_)
  · obtain ⟨c, x, t, rfl, _⟩ := h
    rfl
  · obtain ⟨c, x, t, rfl, ht, k⟩ := h
    have HR_is_whole : Room 1 _ := hr.mono (by decide)
    refine ⟨_, (pss_one (ps_ret (pe_call G_is_whole HR_is_whole rfl T.g_is_whole T.F_is_whole.kp T.b_is_whole .nil pass0 (pa_cons (pv 1) (pa_cons pe_int (pa_cons (pe_op op_sub (pv 0) pe_int) pa_nil)))))), ?_⟩
    walk_at "rd"
    refine ⟨x, t, _, _, rfl, ht, ?_⟩
    exact k
def spRow (K : PySem.W.Frag) : Sp := fun vs H Q _ => ∃ x T, vs = [x] ∧ TyB K H x T ∧ Sm x ∧ ∀ H', Same H H' → Q (.bl (isRow x)) H'
theorem ok_is_row (T : Txt K mg a) : FnOk P w K mg base CX0 1 a.is_row a.d_is_row ["thing"] (spRow K) := by
  refine T.F_is_row.ok sc_is_row (fun vs H Q E h => ?_) (fun cdv A outer s H vs Q E hr h => ?_)
  · obtain ⟨x, t, rfl, _⟩ := h
    rfl
  · obtain ⟨x, t, rfl, ht, sm, k⟩ := h
    refine ⟨_, (pss_cons (ps_if (pt_cmpR op_notTyB (pe_callTy (r := rTyp K) call_type1 rfl T.n_type (by decide +kernel) (pa_cons (pv 0) pa_nil)) (pe_bltn (v := .ty "str") rfl T.n_str (by decide +kernel) rfl) (nomark _))
    (pss_one (ps_ret pe_bl))
    pss_nil)
  (pss_cons (ps_if (PW.pt (pw_or (pt_cmpR op_lt (pe_callB LH.call_lenS rfl T.n_len (by decide +kernel) (pa_cons (pv 0) pa_nil)) pe_int (nomark _)) (pw_or1 (pt_cmpR op_gt (pe_callB LH.call_lenS rfl T.n_len (by decide +kernel) (pa_cons (pv 0) pa_nil)) (pe_glob (v := .int 8) rfl T.m_LONGEST_ROW ⟨_, rfl⟩) (nomark _)))))
    (pss_one (ps_ret pe_bl))
    pss_nil)
  (pss_one (ps_ret (pe_callB (r := rAll K) (cr_all rfl) rfl T.n_all (by decide +kernel) (pa_cons (pe_lc (own := [("letter", 1)]) (g := gName 1) (tt := tYes) rfl sc_is_row.nd (pi_str (pv 0)) (blkOk_by (N := N_is_row) (sc := defScope s_is_row) (by decide +kernel)) (fun _ _ _ _ _ => pg_name (i := 1) sc_is_row.nd rfl (Or.inl rfl)) (fun _ _ _ _ _ => pts_nil) (fun _ _ _ _ _ => (pe_cmpR (r := LH.rInS false) LH.op_inS (pv 1) (pe_glob (v := .str "abcdefghijklmnopqrstuvwxyz") rfl T.m_LETTERS ⟨_, rfl⟩) (by rfl)))) pa_nil)))))), ?_⟩
    walk_at "rd"
    refine LH.x_typ ht ?_
    walk_at "rd"
    cases ht with
    | str z =>
      have hz := (sm z rfl).1
      refine LH.br_nd (fun c => absurd rfl c) (fun _ => ?_)
      walk_at "rd"
      refine LH.x_lenS hz ?_
      walk_at "rd"
      refine LH.br_d (fun c => ?_) (fun c1 => ?_)
      · walk_at "rd"
        have e : isRow (.str z) = false := by
          have : ¬ 1 ≤ z.length := by omega
          simp [isRow, isRowS, this]
        rw [e] at k
        exact k _ (Same.refl _)
      · walk_at "rd"
        refine LH.x_lenS hz ?_
        walk_at "rd"
        refine LH.br_d (fun c => ?_) (fun c2 => ?_)
        · walk_at "rd"
          have e : isRow (.str z) = false := by
            have : ¬ z.length ≤ 8 := by omega
            simp [isRow, isRowS, this]
          rw [e] at k
          exact k _ (Same.refl _)
        · walk_at "rd"
          refine LH.lc_S (by exact hz) (fun _ => true) (fun x => V.bl (signV x)) (fun _ => rfl) ?_ ?_ fun p1 H1 f1 e1 g1 => ?_
          · intro x hx H3 e3 Q3 q3
            walk_at "rd"
            exact q3 _ (Same.refl _)
          · intro x hx _ H3 e3 Q3 q3
            obtain ⟨c, _, rfl⟩ := List.mem_map.mp hx
            walk_at "rd"
            exact q3 _ (Same.refl _)
          walk_at "rd"
          rw [signs_let] at g1
          refine LH.x_all (SqL.of g1) ?_
          walk_at "rd"
          have e : isRow (.str z) = (z.cps.toList.map isLet).all id := by
            have h1 : 1 ≤ z.length := by omega
            have h2 : z.length ≤ 8 := by omega
            rw [all_id]
            simp [isRow, isRowS, h1, h2]
          rw [e] at k
          exact k _ e1
    | _ =>
      refine LH.br_nd (fun _ => ?_) (fun c => absurd c (by decide))
      walk_at "rd"
      exact k _ (Same.refl _)
def spNum (f : Int → Int) : Sp := fun vs H Q _ => ∃ c : Int, vs = [.int c] ∧ 1 ≤ c ∧ c ≤ 12 ∧ Q (.int (f c)) H
theorem ok_most_liars (T : Txt K mg a) : FnOk P w K mg base (L2N.CX P w) 3 a.most_liars a.d_most_liars ["count"] (spNum fun c => (c - 1) / 3) := by
  have G_check_count := ok_check_count (P := P) (w := w) (base := base) T
  refine LH.okN T.F_most_liars sc_most_liars (fun vs H Q E h => ?_) (fun cdv A outer s H vs Q E hr h => ?_)
  · obtain ⟨c, rfl, _⟩ := h
    rfl
  · obtain ⟨c, rfl, c1, c2, k⟩ := h
    have HR_check_count : Room 2 _ := hr.mono (by decide)
    refine ⟨_, (pss_cons (ps_expr (pe_call (E := E) G_check_count HR_check_count rfl T.g_check_count T.F_check_count.kp T.b_check_count .nil (L2N.passes_call (LH.tkN (E := E)) fun _ _ _ _ z => z) (pa_cons (pv 0) pa_nil)))
  (pss_one (ps_ret (pe_op op_fdiv (pe_op op_sub (pv 0) pe_int) pe_int)))), ?_⟩
    walk_at "rd"
    refine ⟨_, _, rfl, .int c, fun _ => ?_, fun e => (by rw [isW_yes c1 c2] at e; cases e)⟩
    walk_at "rd"
    exact k
theorem ok_enough (T : Txt K mg a) : FnOk P w K mg base (L2N.CX P w) 4 a.enough a.d_enough ["count"] (spNum en) := by
  have G_most_liars := ok_most_liars (P := P) (w := w) (base := base) T
  refine LH.okN T.F_enough sc_enough (fun vs H Q E h => ?_) (fun cdv A outer s H vs Q E hr h => ?_)
  · obtain ⟨c, rfl, _⟩ := h
    rfl
  · obtain ⟨c, rfl, c1, c2, k⟩ := h
    have HR_most_liars : Room 3 _ := hr.mono (by decide)
    refine ⟨_, (pss_one (ps_ret (pe_op op_add (pe_op op_fdiv (pe_op op_add (pv 0) (pe_call (E := E) G_most_liars HR_most_liars rfl T.g_most_liars T.F_most_liars.kp T.b_most_liars .nil (L2N.passes_call (LH.tkN (E := E)) fun _ _ _ _ z => z) (pa_cons (pv 0) pa_nil))) pe_int) pe_int))), ?_⟩
    walk_at "rd"
    refine ⟨c, rfl, c1, c2, ?_⟩
    walk_at "rd"
    exact k
def spPlace (K : PySem.W.Frag) : Sp := fun vs H Q _ => ∃ p k n r h, vs = [.ref p] ∧ SqT K H p (wd k n r h) ∧ ∀ q H', Same H H' → H' q = some (.tup [.str k, .int n, .int h]) → Q (.ref q) H'
theorem ok_place (T : Txt K mg a) : FnOk P w K mg base CX0 1 a.place a.d_place ["word"] (spPlace K) := by
  refine T.F_place.ok sc_place (fun vs H Q E h => ?_) (fun cdv A outer s H vs Q E hr h => ?_)
  · obtain ⟨p, k, n, r, h, rfl, _⟩ := h
    rfl
  · obtain ⟨p, kd, n, r, h, rfl, hp, k⟩ := h
    refine ⟨_, (pss_cons (ps_asg (pv 0) (pg_tup rfl (pgs_cons (pg_name (i := 1) sc_place.nd rfl (Or.inl rfl)) (pgs_cons (pg_name (i := 2) sc_place.nd rfl (Or.inl rfl)) (pgs_cons (pg_name (i := 3) sc_place.nd rfl (Or.inl rfl)) (pgs_cons (pg_name (i := 4) sc_place.nd rfl (Or.inl rfl)) pgs_nil))))))
  (pss_one (ps_ret (pe_tup (pa_cons (pv 1) (pa_cons (pv 2) (pa_cons (pv 4) pa_nil))))))), ?_⟩
    walk_at "rd"
    refine LH.x_gtup hp rfl ?_
    walk_at "rd"
    refine LH.newt (LH.small rfl) fun q H1 f1 e1 g1 => ?_
    exact k q H1 e1 g1
end
end K6
namespace K6
open PySem L2 LM HM
local macro_rules | `(tactic| walk_at "rd1") => `(tactic| first
  | with_reducible refine LH.x_seq ?_
  | with_reducible refine LH.x_asg ?_
  | with_reducible refine LH.x_cons ?_
  | with_reducible refine LH.x_var (by with_unfolding_all exact rfl) ?_
  | with_reducible refine LH.x_c ?_
  | with_reducible refine LH.x_op ?_
  | with_reducible refine LH.x_gname ?_
  | with_reducible refine LH.x_nil ?_
  | with_reducible refine LH.x_I0 ?_
  | ((with_reducible refine LH.x_I ?k1 ?_); (case k1 => first | exact (by decide) | exact ⟨by decide, by decide⟩ | exact ⟨by decide, by decide, by decide⟩ | exact .inl ⟨by decide, by decide⟩ | exact .inr ⟨by decide, by decide⟩ | exact .inr ⟨by omega, by omega⟩ | exact .inl ⟨by omega, by omega⟩ | exact (by omega)))
  | with_reducible refine LH.x_ifS ?_
  | with_reducible refine LH.x_test ?_
  | with_reducible refine LH.x_tB ?_
  | with_reducible refine LH.bx ?_
  | with_reducible refine LH.x_and ?_
  | with_reducible refine LH.x_or ?_
  | with_reducible refine LH.x_not ?_
  | with_reducible refine LH.x_ret ?_
  | with_reducible refine LH.x_call ?_
  | with_reducible refine LH.x_cb ?_
  | with_reducible refine LH.x_lst ?_
  | with_reducible refine LH.x_tup ?_
  | with_reducible refine LH.x_bm ?_
  | with_reducible refine LH.x_drop ?_
  | with_reducible refine LH.x_next ?_
  | with_reducible refine LH.x_cont ?_
  | with_reducible refine LH.x_un ?_
  | with_reducible refine LH.x_U ?_
  | with_reducible refine LH.x_eq (by with_unfolding_all exact rfl) ?_
  | with_reducible refine LH.x_ne (by with_unfolding_all exact rfl) ?_
  | with_reducible refine LH.x_andV ?_
  | with_reducible refine LH.x_orV ?_
  | with_reducible refine LH.x_notV ?_
  | with_reducible refine LH.band ?_
  | with_reducible refine LH.bor ?_
  | with_reducible refine LH.x_if ?_
  | with_reducible refine LH.x_chain ?_
  | with_reducible refine LH.chk ?_
  | with_reducible refine LH.x_callS ?_
  | with_reducible refine LH.x_callE ?_
  | with_reducible refine LH.x_callV ?_
  | with_reducible refine LH.x_lrg ?_
  | with_reducible refine LH.x_lcS ?_
  | with_reducible refine LH.x_lcR1 ?_
  | with_reducible refine LH.x_forR1 ?_
  | with_reducible refine LH.x_forR3 ?_
  | with_reducible refine LH.strv ?_
  | with_reducible refine LH.x_yes ?_
  | with_reducible refine LH.x_sl ?_
  | with_reducible refine LH.x_noPart ?_
  | with_reducible refine LH.x_part ?_
  | with_reducible refine LH.pav ?_
  | with_reducible refine LH.x_jnv ?_
  | with_reducible refine LH.x_join ?_
  | with_reducible refine LH.x_inS ?_
  | with_reducible refine LH.x_niS ?_
  | with_reducible refine LH.x_isB ?_
  | with_reducible refine LH.x_isnB ?_
  | with_reducible refine LH.x_gcons ?_
  | with_reducible refine LH.x_gnil ?_
  | with_reducible refine LH.x_intB ?_
  | with_reducible refine LH.x_orT ?_
  | with_reducible refine LH.x_isTy ?_
  | with_reducible refine LH.x_niTy ?_
  | with_reducible refine LH.x_split ?_
  | with_reducible refine LH.x_spv ?_
  | with_reducible refine LH.x_gsub ?_
  | with_reducible refine LH.x_fmt ?_
  | with_reducible refine LH.x_js0 ?_
  | with_reducible refine LH.x_js ?_
  | with_reducible refine LH.x_rg1 ?_
  | with_reducible refine LH.x_forL ?_
  | with_reducible refine LH.x_abs ?_
  | with_reducible refine LH.x_rg2 ?_
  | with_reducible refine LH.rg1v ?_
  | with_reducible refine LH.rg2v ?_
  | with_reducible refine LH.x_forR2 ?_
  | with_reducible refine LH.x_lenSetG ?_
  | with_reducible refine LH.x_lc ?_
  | with_reducible refine LH.x_fld ?_
  | with_reducible refine LH.x_sfld ?_
  | with_reducible refine LH.x_afld ?_
  | with_reducible refine LH.x_meth ?_
  | with_reducible refine LH.x_make ?_
  | with_reducible refine LH.x_methSl ?_
  | with_reducible refine LH.x_makeSl ?_
  | with_reducible refine LH.x_din ?_
  | with_reducible refine LH.x_dni ?_
  | with_reducible refine LH.x_dget ?_
  | with_reducible refine LH.x_dput ?_
  | with_reducible refine LH.x_dget2 ?_
  | with_reducible refine LH.x_dpop1 ?_
  | with_reducible refine LH.x_litems ?_
  | with_reducible refine LH.x_tru ?_
  | with_reducible refine LH.x_revL ?_
  | with_reducible refine LH.x_dsetT ?_
  | with_reducible refine LH.x_lvals ?_
  | with_reducible refine LH.br_nt ?_
  | with_reducible refine LH.br_nf ?_
  | with_reducible refine LH.br_t ?_
  | with_reducible refine LH.br_f ?_)
local macro_rules | `(tactic| walk_at "rd") => `(tactic| repeat (walk_at "rd1"))
local macro_rules | `(tactic| walk_at "rs1") => `(tactic| first
  | with_reducible refine LH.x_seq ?_
  | with_reducible refine LH.x_cons ?_
  | with_reducible refine LH.x_var (by with_unfolding_all exact rfl) ?_
  | with_reducible refine LH.x_c ?_
  | with_reducible refine LH.x_op ?_
  | with_reducible refine LH.x_gname ?_
  | with_reducible refine LH.x_nil ?_
  | with_reducible refine LH.x_I0 ?_
  | ((with_reducible refine LH.x_I ?k1 ?_); (case k1 => first | exact (by decide) | exact ⟨by decide, by decide⟩ | exact ⟨by decide, by decide, by decide⟩ | exact .inl ⟨by decide, by decide⟩ | exact .inr ⟨by decide, by decide⟩ | exact .inr ⟨by omega, by omega⟩ | exact .inl ⟨by omega, by omega⟩ | exact (by omega)))
  | with_reducible refine LH.x_test ?_
  | with_reducible refine LH.x_tB ?_
  | with_reducible refine LH.bx ?_
  | with_reducible refine LH.x_and ?_
  | with_reducible refine LH.x_or ?_
  | with_reducible refine LH.x_not ?_
  | with_reducible refine LH.x_call ?_
  | with_reducible refine LH.x_cb ?_
  | with_reducible refine LH.x_lst ?_
  | with_reducible refine LH.x_tup ?_
  | with_reducible refine LH.x_bm ?_
  | with_reducible refine LH.x_next ?_
  | with_reducible refine LH.x_cont ?_
  | with_reducible refine LH.x_un ?_
  | with_reducible refine LH.x_U ?_
  | with_reducible refine LH.x_eq (by with_unfolding_all exact rfl) ?_
  | with_reducible refine LH.x_ne (by with_unfolding_all exact rfl) ?_
  | with_reducible refine LH.x_andV ?_
  | with_reducible refine LH.x_orV ?_
  | with_reducible refine LH.x_notV ?_
  | with_reducible refine LH.band ?_
  | with_reducible refine LH.bor ?_
  | with_reducible refine LH.x_if ?_
  | with_reducible refine LH.x_chain ?_
  | with_reducible refine LH.chk ?_
  | with_reducible refine LH.x_callS ?_
  | with_reducible refine LH.x_callE ?_
  | with_reducible refine LH.x_callV ?_
  | with_reducible refine LH.x_lrg ?_
  | with_reducible refine LH.x_lcS ?_
  | with_reducible refine LH.x_lcR1 ?_
  | with_reducible refine LH.strv ?_
  | with_reducible refine LH.x_yes ?_
  | with_reducible refine LH.x_sl ?_
  | with_reducible refine LH.x_noPart ?_
  | with_reducible refine LH.x_part ?_
  | with_reducible refine LH.pav ?_
  | with_reducible refine LH.x_jnv ?_
  | with_reducible refine LH.x_join ?_
  | with_reducible refine LH.x_inS ?_
  | with_reducible refine LH.x_niS ?_
  | with_reducible refine LH.x_isB ?_
  | with_reducible refine LH.x_isnB ?_
  | with_reducible refine LH.x_gcons ?_
  | with_reducible refine LH.x_gnil ?_
  | with_reducible refine LH.x_intB ?_
  | with_reducible refine LH.x_orT ?_
  | with_reducible refine LH.x_isTy ?_
  | with_reducible refine LH.x_niTy ?_
  | with_reducible refine LH.x_split ?_
  | with_reducible refine LH.x_spv ?_
  | with_reducible refine LH.x_gsub ?_
  | with_reducible refine LH.x_fmt ?_
  | with_reducible refine LH.x_js0 ?_
  | with_reducible refine LH.x_js ?_
  | with_reducible refine LH.x_rg1 ?_
  | with_reducible refine LH.x_abs ?_
  | with_reducible refine LH.x_rg2 ?_
  | with_reducible refine LH.rg1v ?_
  | with_reducible refine LH.rg2v ?_
  | with_reducible refine LH.x_lenSetG ?_
  | with_reducible refine LH.x_lc ?_
  | with_reducible refine LH.x_fld ?_
  | with_reducible refine LH.x_sfld ?_
  | with_reducible refine LH.x_afld ?_
  | with_reducible refine LH.x_meth ?_
  | with_reducible refine LH.x_make ?_
  | with_reducible refine LH.x_methSl ?_
  | with_reducible refine LH.x_makeSl ?_
  | with_reducible refine LH.x_din ?_
  | with_reducible refine LH.x_dni ?_
  | with_reducible refine LH.x_dget ?_
  | with_reducible refine LH.x_dput ?_
  | with_reducible refine LH.x_dget2 ?_
  | with_reducible refine LH.x_dpop1 ?_
  | with_reducible refine LH.x_litems ?_
  | with_reducible refine LH.x_tru ?_
  | with_reducible refine LH.x_revL ?_
  | with_reducible refine LH.x_dsetT ?_
  | with_reducible refine LH.x_lvals ?_
  | with_reducible refine LH.br_nt ?_
  | with_reducible refine LH.br_nf ?_
  | with_reducible refine LH.br_t ?_
  | with_reducible refine LH.br_f ?_)
local macro_rules | `(tactic| walk_at "rs") => `(tactic| repeat (walk_at "rs1"))

section
variable {P : Program} {w : World} {K : PySem.W.Frag} {mg : Str → Option Value} {base : Heap} {a : Ad}
theorem HA.nes {h : HA} (nd : h.S.Nodup) : h.p ∉ [h.kn, h.ea, h.ma, h.ms, h.ro, h.ba, h.nm] ∧ h.kn ∉ [h.ea, h.ma, h.ms, h.ro, h.ba, h.nm] ∧ h.ea ∉ [h.ma, h.ms, h.ro, h.ba, h.nm] ∧ h.ma ∉ [h.ms, h.ro, h.ba, h.nm] ∧ h.ms ∉ [h.ro, h.ba, h.nm] ∧ h.ro ∉ [h.ba, h.nm] ∧ h.ba ≠ h.nm ∧
    (∀ b ∈ h.ins.map (·.2), b ∉ [h.p, h.kn, h.ea, h.ma, h.ms, h.ro, h.ba, h.nm]) ∧ (h.ins.map (·.2)).Nodup := by
  unfold HA.S at nd
  simp only [List.nodup_cons, List.mem_cons, not_or] at nd
  obtain ⟨n1, n2, n3, n4, n5, n6, n7, n8, n9⟩ := nd
  refine ⟨?_, ?_, ?_, ?_, ?_, ?_, n7.1, fun b hb m => ?_, n9⟩
  · simp [n1]
  · simp [n2]
  · simp [n3]
  · simp [n4]
  · simp [n5]
  · simp [n6]
  · simp only [List.mem_cons, List.not_mem_nil, or_false] at m
    rcases m with rfl | rfl | rfl | rfl | rfl | rfl | rfl | rfl
    · exact n1.2.2.2.2.2.2.2 hb
    · exact n2.2.2.2.2.2.2 hb
    · exact n3.2.2.2.2.2 hb
    · exact n4.2.2.2.2 hb
    · exact n5.2.2.2 hb
    · exact n6.2.2 hb
    · exact n7.2 hb
    · exact n8 hb
/-- what a deed asks of the house: it stands, all its places may change -/
structure Std (C : Addr) (M : List Addr) (H : Hp) (h : HA) (st : HS) : Prop where
  at_ : HouseAt C (LH.Fr M H) H h st
  sub : ∀ b ∈ h.S, b ∈ M
  al : ∀ b ∈ M, ∃ o, H b = some o
  sm : st.size ≤ 20000
theorem Std.same {C : Addr} {M : List Addr} {H H' : Hp} {h : HA} {st : HS} (s : Std C M H h st) (e : Same H H') : Std C M H' h st :=
  ⟨s.at_.to (LH.same_fr e) fun b o _ q => e _ _ q, s.sub, fun b hb => let ⟨o, q⟩ := s.al b hb; ⟨o, e _ _ q⟩, s.sm⟩
theorem Std.next {C : Addr} {M N : List Addr} {H H' : Hp} {h h' : HA} {st st' : HS} (s : Std C M H h st) (n : Nxt C M H h st' H' N h') (l : st'.size ≤ 20000) : Std C (N ++ M) H' h' st' :=
  ⟨n.at_, n.subM s.sub, n.alive s.al, l⟩
theorem Std.kl {C : Addr} {M : List Addr} {H : Hp} {h : HA} {st : HS} (s : Std C M H h st) : st.known.length ≤ 20000 := by have := s.sm; unfold HS.size at this; omega
theorem Std.ml {C : Addr} {M : List Addr} {H : Hp} {h : HA} {st : HS} (s : Std C M H h st) : st.marked.length ≤ 20000 := by have := s.sm; unfold HS.size at this; omega
theorem Std.rl {C : Addr} {M : List Addr} {H : Hp} {h : HA} {st : HS} (s : Std C M H h st) : st.rows.length ≤ 20000 := by have := s.sm; unfold HS.size at this; omega
theorem Std.nl {C : Addr} {M : List Addr} {H : Hp} {h : HA} {st : HS} (s : Std C M H h st) : st.named.length ≤ 20000 := by have := s.sm; unfold HS.size at this; omega
/-- a word of the town -/
def Fit (st : HS) (u : Wrd) : Prop := u.Ok ∧ 0 ≤ u.h ∧ u.h < st.c
def spLearn (C : Addr) : Sp := fun vs H Q _ => ∃ h st x u M, vs = [.ref (h : HA).p, x] ∧ Std C M H h st ∧ WT (LH.Fr M H) x u ∧ Fit st u ∧ ∀ H' N h', Nxt C M H h (st.learn u) H' N h' → Q .non H'
theorem ok_House__learn (T : Txt K mg a) : FnOk P w K mg base CX0 2 a.House__learn a.d_House__learn ["self", "word"] (spLearn a.House) := by
  have G_place := ok_place (P := P) (w := w) (base := base) T
  refine T.F_House__learn.ok sc_House__learn (fun vs H Q E h => ?_) (fun cdv A outer s H vs Q E hr h => ?_)
  · obtain ⟨h, st, x, u, M, rfl, _⟩ := h
    rfl
  · obtain ⟨h, st, x, u, M, rfl, S, ⟨b, rfl, hb⟩, fit, k⟩ := h
    obtain ⟨⟨dx, hp⟩, ⟨kv1, g1, l1, i1⟩, ⟨kv2, g2, l2, i2⟩, pma, pms, pro, pba, pnm, nd, go⟩ := id S.at_
    obtain ⟨n1, n2, n3, n4, n5, n6, n7, n8, n9⟩ := HA.nes nd
    simp only [List.mem_cons, List.not_mem_nil, or_false, not_or] at n1 n2 n3 n4 n5 n6
    have hb' := LH.fr_le _ _ hb
    have bM := (LH.fr_some hb).2
    have inS : ∀ y, y ∈ [h.p, h.kn, h.ea, h.ma, h.ms, h.ro, h.ba, h.nm] → y ∈ h.S := fun y hy => by unfold HA.S; simp only [List.mem_cons, List.not_mem_nil, or_false] at hy ⊢; rcases hy with q | q | q | q | q | q | q | q <;> simp [q]
    have sm := S.kl
    have HR_place : Room 1 _ := hr.mono (by decide)
    refine ⟨_, (pss_cons (ps_dput (hu_of hr) (pe_fld (pv 0) rfl) (pv 1) pe_bl rfl)
  (pss_cons (ps_expr (LH.pe_dsetdT (hu_of hr) (pe_fld (pv 0) rfl) (pe_call G_place HR_place rfl T.g_place T.F_place.kp T.b_place .nil pass0 (pa_cons (pv 1) pa_nil)) (pv 1) ⟨rfl, rfl, rfl, rfl⟩))
  (pss_cons (ps_asg (pv 1) (pg_tup rfl (pgs_cons (pg_name (i := 2) sc_House__learn.nd rfl (Or.inl rfl)) (pgs_cons (pg_name (i := 3) sc_House__learn.nd rfl (Or.inl rfl)) (pgs_cons (pg_name (i := 4) sc_House__learn.nd rfl (Or.inl rfl)) (pgs_cons (pg_name (i := 5) sc_House__learn.nd rfl (Or.inl rfl)) pgs_nil))))))
  (pss_one (ps_if (pt_cmpR op_eq (pv 2) (pe_glob (v := .str "mark") rfl T.m_MARK ⟨_, rfl⟩) (nomark _))
    (pss_cons (ps_set (i := 6) sc_House__learn.nd rfl (Or.inl rfl) (LH.pe_dsetdT (hu_of hr) (pe_fld (pv 0) rfl) (pe_tup (pa_cons (pv 3) (pa_cons (pv 4) pa_nil))) pe_dnewK ⟨rfl, rfl, rfl, rfl⟩))
    (pss_one (ps_dput (hu_of hr) (pv 6) (pv 5) (pv 1) rfl)))
    pss_nil))))), ?_⟩
    walk_at "rd"
    refine LH.fldv hp T.cl_House T.na_House__known rfl ?_
    walk_at "rd"
    refine LH.putvT (ks := ky u) g1 (by rw [ky_vs]; exact hb') (by omega) fun H1 k1 g1' => ?_
    have K1 : PKn H1 h.kn (HM.learn st.known u) := PKn.learn l1 i1 g1'
    have hp1 := k1 _ _ hp n1.1
    have hb1 := k1 _ _ hb' (fun e => bM (e ▸ S.sub _ (inS _ (by simp))))
    have hbF : ∀ {H2 : Hp}, LH.Ks h.S H H2 → LH.Fr M H2 b = some (.tup u.vs) := fun ks => LH.fr_of (ks _ _ hb' fun m => bM (S.sub _ m)) bM
    walk_at "rs"
    refine LH.cutS (fun σ' H' => σ' = [some (.ref h.p), some (.ref b), none, none, none, none, none] ∧ PEa (LH.Fr M H') H' h.ea (HM.learn st.known u) ∧ ∀ b o, H1 b = some o → b ≠ h.ea → H' b = some o) (fun N hN => ?_) ?_
    · walk_at "rd"
      refine LH.fldv hp1 T.cl_House T.na_House__earliest rfl ?_
      have g2' := k1 _ _ g2 (Ne.symm n2.1)
      refine LH.sdv (LH.isdT g2') ?_
      walk_at "rd"
      refine ⟨b, _, _, _, _, rfl, SqT.of hb1, fun t H2 e2 g3 => ?_⟩
      walk_at "rd"
      have ks2 : LH.Ks h.S H H2 := (k1.ks (inS _ (by simp))).trans (.of e2)
      refine LH.sdw (k := u.pl) (e2 _ _ g2') (by rw [pl_vs]; exact g3) (by omega) (fun v hv => ?_) (fun hv H3 k3 g3' => ?_)
      · walk_at "rd"
        refine hN _ _ ⟨rfl, PEa.there (e2 _ _ g2') l2 (fun k0 => ⟨(i2 k0).1, fun w0 q => let ⟨y, a1, a2⟩ := (i2 k0).2 w0 q; ⟨y, a1, a2.up (ks2.frS S.sub)⟩⟩) hv, fun b o q _ => e2 _ _ q⟩
      · walk_at "rd"
        have ks3 : LH.Ks h.S H H3 := ks2.trans (k3.ks (inS _ (by simp)))
        refine hN _ _ ⟨rfl, PEa.fresh l2 (fun k0 => ⟨(i2 k0).1, fun w0 q => let ⟨y, a1, a2⟩ := (i2 k0).2 w0 q; ⟨y, a1, a2.up (ks3.frS S.sub)⟩⟩) hv ⟨b, rfl, hbF ks3⟩ g3', fun b o q n => k3 _ _ (e2 _ _ q) n⟩
    rintro σ' H2 ⟨rfl, E2, k2⟩
    have ks2 : LH.Ks h.S H H2 := fun y o q n => k2 _ _ (k1 _ _ q fun e => n (e ▸ inS _ (by simp))) fun e => n (e ▸ inS _ (by simp))
    have hp2 := k2 _ _ hp1 n1.2.1
    have hb2 := ks2 _ _ hb' fun m => bM (S.sub _ m)
    have keep2 : ∀ y o, y ≠ h.kn → y ≠ h.ea → H y = some o → H2 y = some o := fun y o q1 q2 q => k2 _ _ (k1 _ _ q q1) q2
    have f2 := ks2.frS S.sub
    have K2 : PKn H2 h.kn (HM.learn st.known u) := K1.to fun o q => k2 _ _ q n2.1
    have goL : Good (st.learn u) := go.learn ⟨fit.1, fit.2⟩
    walk_at "rd"
    refine LH.x_gtup (xs := wd u.k u.n u.r u.h) (SqT.of hb2) rfl ?_
    walk_at "rd"
    rw [dstr]
    refine LH.br_d (fun c => ?_) (fun c => ?_)
    · -- a mark
      walk_at "rs"
      refine LH.x_asg ?_
      have inner_ne : ∀ e ∈ h.ins, e.2 ∉ [h.p, h.kn, h.ea, h.ma, h.ms, h.ro, h.ba, h.nm] := fun e he => n8 _ (List.mem_map.mpr ⟨e, he, rfl⟩)
      have hm : isM (nr u) u = true := by unfold isM; simp [c]
      have pms2 : PMs (LH.Fr M H2) H2 h.ms h.ins st.known := pms.to f2 fun y o hy q => by
        rcases hy with rfl | hy
        · exact keep2 _ _ (Ne.symm n2.2.2.1) (Ne.symm n3.2.1) q
        · have := n8 _ hy
          simp only [List.mem_cons, List.not_mem_nil, or_false, not_or] at this
          exact keep2 _ _ this.2.1 this.2.2.1 q
      walk_at "rd"
      refine LH.fldv hp2 T.cl_House T.na_House__marks rfl ?_
      refine LH.sdv (LH.isdT pms2.dt) ?_
      walk_at "rd"
      refine LH.newt (LH.small rfl) fun t3 H3 f3 e3 g3 => ?_
      walk_at "rd"
      refine LH.x_dnew fun d H4 f4 e4 g4 => ?_
      have e24 := e3.trans e4
      have pms4 := pms2.to (LH.same_fr e24) fun y o _ q => e24 _ _ q
      refine LH.sdw (k := nr u) pms4.dt (by exact e4 _ _ g3) (by
        rw [List.length_map]
        have := pms.few
        omega) (fun v hv => ?_) (fun hv H5 k5 g5 => ?_)
      · -- a row that has marks
        obtain ⟨e0, he0, ee0, rfl⟩ := lookup_ins hv
        obtain ⟨kv, gd, kd1, kd2⟩ := pms4.inn e0 he0
        have m0 : e0.2 ∈ h.ins.map (·.2) := List.mem_map.mpr ⟨e0, he0, rfl⟩
        have in0 := n8 _ m0
        simp only [List.mem_cons, List.not_mem_nil, or_false, not_or] at in0
        have S0 : e0.2 ∈ h.S := by unfold HA.S; simp only [List.mem_cons]; simp [m0]
        walk_at "rd"
        have lk : kv.length ≤ 100000 := by
          have h1 := congrArg List.length kd1
          rw [List.length_map, List.length_map] at h1
          have h2 := List.length_filter_le (isM e0.1) st.known
          unfold marksOf at h1
          omega
        refine LH.putvI gd lk fun H5 k5 g5 => ?_
        walk_at "rd"
        have ks5 : LH.Ks h.S H H5 := (ks2.trans (.of e24)).trans (k5.ks S0)
        have f45 : Same (LH.Fr M H4) (LH.Fr M H5) := (k5.ks (S.sub _ S0)).fr
        have f25 : Same (LH.Fr M H2) (LH.Fr M H5) := (LH.same_fr e24).trans f45
        have keep5 : ∀ y o, y ≠ e0.2 → H2 y = some o → H5 y = some o := fun y o n q => k5 _ _ (e24 _ _ q) n
        have pin : PIn (LH.Fr M H5) H5 e0.2 (marksOf (HM.learn st.known u) e0.1) := PIn.put (by rw [ee0]; exact hm) kd1 (fun w0 hw0 => let ⟨y, a1, a2⟩ := kd2 w0 hw0; ⟨y, a1, a2.up f45⟩) ⟨b, rfl, hbF ks5⟩ g5
        refine k H5 [] h ⟨ks5, (fun _ m => by cases m), (fun _ m => by cases m), rfl, fun y q => .inl q, fun y q => q, ?_⟩
        have fHF : Same (LH.Fr M H) (LH.Fr ([] ++ M) H5) := f2.trans f25
        refine ⟨⟨dx, keep5 _ _ (Ne.symm in0.1) hp2⟩, K2.to fun o q => keep5 _ o (Ne.symm in0.2.1) q, E2.to f25 fun o q => keep5 _ o (Ne.symm in0.2.2.1) q, pma.to fun o q => keep5 _ o (Ne.symm in0.2.2.2.1) (keep2 _ _ (Ne.symm n2.2.1) (Ne.symm n3.1) q), ?_, pro.to fun o q => keep5 _ o (Ne.symm in0.2.2.2.2.2.1) (keep2 _ _ (Ne.symm n2.2.2.2.1) (Ne.symm n3.2.2.1) q), pba.to fHF fun o q => keep5 _ o (Ne.symm in0.2.2.2.2.2.2.1) (keep2 _ _ (Ne.symm n2.2.2.2.2.1) (Ne.symm n3.2.2.2.1) q), pnm.to fHF fun o q => keep5 _ o (Ne.symm in0.2.2.2.2.2.2.2) (keep2 _ _ (Ne.symm n2.2.2.2.2.2) (Ne.symm n3.2.2.2.2) q), nd, goL⟩
        exact (pms4.to f45 fun y o _ q => q).more he0 ee0 c n9 (fun y o q n => k5 _ _ q n) (Ne.symm in0.2.2.2.2.1) pin
      · -- the first mark of a row
        have noK := no_ins hv
        have nu : u ∉ st.known := fun m => noK ((pms.all (nr u)).mp (by
          have : u ∈ marksOf st.known (nr u) := List.mem_filter.mpr ⟨m, hm⟩
          exact List.ne_nil_of_mem this))
        walk_at "rd"
        have fd2 : H2 d = none := LH.Same.none e3 f4
        have dS : d ∉ h.S := fun m => by
          obtain ⟨o, q⟩ := S.at_.alive d m
          by_cases c1 : d = h.kn
          · rw [c1] at fd2
            obtain ⟨kv, q1, _⟩ := K2
            rw [q1] at fd2
            cases fd2
          · by_cases c2 : d = h.ea
            · rw [c2] at fd2
              obtain ⟨kv, q1, _⟩ := E2
              rw [q1] at fd2
              cases fd2
            · rw [keep2 _ _ c1 c2 q] at fd2
              cases fd2
        have dH : H d = none := by
          cases q : H d with
          | none => rfl
          | some o => rw [ks2 _ _ q dS] at fd2; cases fd2
        have dM : d ∉ M := LH.not_in dH S.al
        have dms : d ≠ h.ms := fun e => dS (e ▸ inS _ (by simp))
        have g4' : H5 d = some (.dK []) := k5 _ _ g4 dms
        refine LH.putvI g4' (by decide) fun H6 k6 g6 => ?_
        walk_at "rd"
        have keep6 : ∀ y o, y ≠ h.ms → y ≠ d → H2 y = some o → H6 y = some o := fun y o q1 q2 q => k6 _ _ (k5 _ _ (e24 _ _ q) q1) q2
        have ne_d : ∀ y, y ∈ [h.p, h.kn, h.ea, h.ma, h.ms, h.ro, h.ba, h.nm] → y ≠ d := fun y hy e => dS (e ▸ inS y hy)
        have ks6 : LH.Ks h.S H H6 := fun y o q n => keep6 y o (fun e => n (e ▸ inS _ (by simp))) (fun e => by rw [e, dH] at q; cases q) (ks2 _ _ q n)
        have fM : Same (LH.Fr M H) (LH.Fr ([d] ++ M) H6) := fun y o q => by
          obtain ⟨q1, q2⟩ := LH.fr_some q
          refine LH.fr_of (ks6 _ _ q1 fun m => q2 (S.sub _ m)) fun m => ?_
          rcases List.mem_append.mp m with m | m
          · rw [List.mem_singleton.mp m, dH] at q1
            cases q1
          · exact q2 m
        have f26 : Same (LH.Fr M H2) (LH.Fr ([d] ++ M) H6) := fun y o q => by
          obtain ⟨q1, q2⟩ := LH.fr_some q
          refine LH.fr_of (keep6 _ _ (fun e => q2 (e ▸ S.sub _ (inS _ (by simp)))) (fun e => by rw [e, fd2] at q1; cases q1) q1) fun m => ?_
          rcases List.mem_append.mp m with m | m
          · rw [List.mem_singleton.mp m, fd2] at q1
            cases q1
          · exact q2 m
        have wt6 : WT (LH.Fr ([d] ++ M) H6) (.ref b) u := ⟨b, rfl, fM _ _ hb⟩
        have pin : PIn (LH.Fr ([d] ++ M) H6) H6 d (marksOf (HM.learn st.known u) (nr u)) := PIn.put (l := st.known) (kvs := []) hm (by
            have : marksOf st.known (nr u) = [] := by
              cases q : marksOf st.known (nr u) with
              | nil => rfl
              | cons z zs => exact absurd ((pms.all _).mp (by rw [q]; exact List.cons_ne_nil _ _)) noK
            rw [this]
            rfl) (fun w0 hw0 => by
            have : marksOf st.known (nr u) = [] := by
              cases q : marksOf st.known (nr u) with
              | nil => rfl
              | cons z zs => exact absurd ((pms.all _).mp (by rw [q]; exact List.cons_ne_nil _ _)) noK
            rw [this] at hw0
            cases hw0) wt6 g6
        have g5' : H6 h.ms = some (.dT ((h.ins ++ [(nr u, d)]).map fun e => (e.1, V.ref e.2))) := by
          rw [k6 _ _ g5 (Ne.symm dms), putK_new _ hv, List.map_append]
          rfl
        let h' : HA := { h with ins := h.ins ++ [(nr u, d)] }
        have eS : h'.S = h.S ++ [d] := by unfold HA.S; simp [h']
        refine k H6 [d] h' ⟨ks6, fun y hy => by rw [List.mem_singleton.mp hy]; exact dH, fun y hy => by rw [List.mem_singleton.mp hy]; exact ⟨_, g6⟩, rfl, fun y hy => by
            rw [eS] at hy
            exact (List.mem_append.mp hy), fun y hy => by rw [eS]; exact List.mem_append.mpr (.inl hy), ?_⟩
        refine ⟨⟨dx, keep6 _ _ n1.2.2.2.1 (ne_d h.p (by simp)) hp2⟩, K2.to fun o q => keep6 _ o n2.2.2.1 (ne_d _ (by simp)) q, E2.to f26 fun o q => keep6 _ o n3.2.1 (ne_d _ (by simp)) q, pma.to fun o q => keep6 _ o n4.1 (ne_d _ (by simp)) (keep2 _ _ (Ne.symm n2.2.1) (Ne.symm n3.1) q), ?_, pro.to fun o q => keep6 _ o (Ne.symm n5.1) (ne_d _ (by simp)) (keep2 _ _ (Ne.symm n2.2.2.2.1) (Ne.symm n3.2.2.1) q), pba.to fM fun o q => keep6 _ o (Ne.symm n5.2.1) (ne_d _ (by simp)) (keep2 _ _ (Ne.symm n2.2.2.2.2.1) (Ne.symm n3.2.2.2.1) q), pnm.to fM fun o q => keep6 _ o (Ne.symm n5.2.2) (ne_d _ (by simp)) (keep2 _ _ (Ne.symm n2.2.2.2.2.2) (Ne.symm n3.2.2.2.2) q), ?_, goL⟩
        · refine (pms2.to f26 fun y o hy q => q).first c noK nu (fun y o q n => ?_) (fun e he q => ?_) g5' pin
          · by_cases c1 : y = d
            · rw [c1, fd2] at q
              cases q
            · exact keep6 y o n c1 q
          · have := n8 e.2 (List.mem_map.mpr ⟨e, he, rfl⟩)
            simp [q] at this
        · rw [eS]
          exact List.nodup_append.mpr ⟨nd, by simp, fun x hx y hy e => dS (by rw [List.mem_singleton.mp hy] at e; rw [← e]; exact hx)⟩
    · -- no mark
      walk_at "rd"
      have c : ¬ u.k = "mark" := c
      refine k H2 [] h ⟨ks2, (fun _ m => by cases m), (fun _ m => by cases m), rfl, fun y q => .inl q, fun y q => q, ?_⟩
      refine ⟨⟨dx, hp2⟩, K2, E2, pma.to fun o q => keep2 _ _ (Ne.symm n2.2.1) (Ne.symm n3.1) q, ?_, pro.to fun o q => keep2 _ _ (Ne.symm n2.2.2.2.1) (Ne.symm n3.2.2.1) q, pba.to f2 fun o q => keep2 _ _ (Ne.symm n2.2.2.2.2.1) (Ne.symm n3.2.2.2.1) q, pnm.to f2 fun o q => keep2 _ _ (Ne.symm n2.2.2.2.2.2) (Ne.symm n3.2.2.2.2) q, nd, goL⟩
      refine pms.say c f2 fun y o hy q => ?_
      rcases hy with rfl | hy
      · exact keep2 _ _ (Ne.symm n2.2.2.1) (Ne.symm n3.2.1) q
      · have := n8 _ hy
        simp only [List.mem_cons, List.not_mem_nil, or_false, not_or] at this
        exact keep2 _ _ this.2.1 this.2.2.1 q
end
end K6
namespace K6
open PySem L2 LM HM
local macro_rules | `(tactic| walk_at "rd1") => `(tactic| first
  | with_reducible refine LH.x_seq ?_
  | with_reducible refine LH.x_asg ?_
  | with_reducible refine LH.x_cons ?_
  | with_reducible refine LH.x_var (by with_unfolding_all exact rfl) ?_
  | with_reducible refine LH.x_c ?_
  | with_reducible refine LH.x_op ?_
  | with_reducible refine LH.x_gname ?_
  | with_reducible refine LH.x_nil ?_
  | with_reducible refine LH.x_I0 ?_
  | ((with_reducible refine LH.x_I ?k1 ?_); (case k1 => first | exact (by decide) | exact ⟨by decide, by decide⟩ | exact ⟨by decide, by decide, by decide⟩ | exact .inl ⟨by decide, by decide⟩ | exact .inr ⟨by decide, by decide⟩ | exact .inr ⟨by omega, by omega⟩ | exact .inl ⟨by omega, by omega⟩ | exact (by omega)))
  | with_reducible refine LH.x_ifS ?_
  | with_reducible refine LH.x_test ?_
  | with_reducible refine LH.x_tB ?_
  | with_reducible refine LH.bx ?_
  | with_reducible refine LH.x_and ?_
  | with_reducible refine LH.x_or ?_
  | with_reducible refine LH.x_not ?_
  | with_reducible refine LH.x_ret ?_
  | with_reducible refine LH.x_call ?_
  | with_reducible refine LH.x_cb ?_
  | with_reducible refine LH.x_lst ?_
  | with_reducible refine LH.x_tup ?_
  | with_reducible refine LH.x_bm ?_
  | with_reducible refine LH.x_drop ?_
  | with_reducible refine LH.x_next ?_
  | with_reducible refine LH.x_cont ?_
  | with_reducible refine LH.x_un ?_
  | with_reducible refine LH.x_U ?_
  | with_reducible refine LH.x_eq (by with_unfolding_all exact rfl) ?_
  | with_reducible refine LH.x_ne (by with_unfolding_all exact rfl) ?_
  | with_reducible refine LH.x_andV ?_
  | with_reducible refine LH.x_orV ?_
  | with_reducible refine LH.x_notV ?_
  | with_reducible refine LH.band ?_
  | with_reducible refine LH.bor ?_
  | with_reducible refine LH.x_if ?_
  | with_reducible refine LH.x_chain ?_
  | with_reducible refine LH.chk ?_
  | with_reducible refine LH.x_callS ?_
  | with_reducible refine LH.x_callE ?_
  | with_reducible refine LH.x_callV ?_
  | with_reducible refine LH.x_lrg ?_
  | with_reducible refine LH.x_lcS ?_
  | with_reducible refine LH.x_lcR1 ?_
  | with_reducible refine LH.x_forR1 ?_
  | with_reducible refine LH.x_forR3 ?_
  | with_reducible refine LH.strv ?_
  | with_reducible refine LH.x_yes ?_
  | with_reducible refine LH.x_sl ?_
  | with_reducible refine LH.x_noPart ?_
  | with_reducible refine LH.x_part ?_
  | with_reducible refine LH.pav ?_
  | with_reducible refine LH.x_jnv ?_
  | with_reducible refine LH.x_join ?_
  | with_reducible refine LH.x_inS ?_
  | with_reducible refine LH.x_niS ?_
  | with_reducible refine LH.x_isB ?_
  | with_reducible refine LH.x_isnB ?_
  | with_reducible refine LH.x_gcons ?_
  | with_reducible refine LH.x_gnil ?_
  | with_reducible refine LH.x_intB ?_
  | with_reducible refine LH.x_orT ?_
  | with_reducible refine LH.x_isTy ?_
  | with_reducible refine LH.x_niTy ?_
  | with_reducible refine LH.x_split ?_
  | with_reducible refine LH.x_spv ?_
  | with_reducible refine LH.x_gsub ?_
  | with_reducible refine LH.x_fmt ?_
  | with_reducible refine LH.x_js0 ?_
  | with_reducible refine LH.x_js ?_
  | with_reducible refine LH.x_rg1 ?_
  | with_reducible refine LH.x_forL ?_
  | with_reducible refine LH.x_abs ?_
  | with_reducible refine LH.x_rg2 ?_
  | with_reducible refine LH.rg1v ?_
  | with_reducible refine LH.rg2v ?_
  | with_reducible refine LH.x_forR2 ?_
  | with_reducible refine LH.x_lenSetG ?_
  | with_reducible refine LH.x_lc ?_
  | with_reducible refine LH.x_fld ?_
  | with_reducible refine LH.x_sfld ?_
  | with_reducible refine LH.x_afld ?_
  | with_reducible refine LH.x_meth ?_
  | with_reducible refine LH.x_make ?_
  | with_reducible refine LH.x_methSl ?_
  | with_reducible refine LH.x_makeSl ?_
  | with_reducible refine LH.x_din ?_
  | with_reducible refine LH.x_dni ?_
  | with_reducible refine LH.x_dget ?_
  | with_reducible refine LH.x_dput ?_
  | with_reducible refine LH.x_dget2 ?_
  | with_reducible refine LH.x_dpop1 ?_
  | with_reducible refine LH.x_litems ?_
  | with_reducible refine LH.x_tru ?_
  | with_reducible refine LH.x_revL ?_
  | with_reducible refine LH.x_dsetT ?_
  | with_reducible refine LH.x_lvals ?_
  | with_reducible refine LH.br_nt ?_
  | with_reducible refine LH.br_nf ?_
  | with_reducible refine LH.br_t ?_
  | with_reducible refine LH.br_f ?_)
local macro_rules | `(tactic| walk_at "rd") => `(tactic| repeat (walk_at "rd1"))
local macro_rules | `(tactic| walk_at "rs1") => `(tactic| first
  | with_reducible refine LH.x_seq ?_
  | with_reducible refine LH.x_cons ?_
  | with_reducible refine LH.x_var (by with_unfolding_all exact rfl) ?_
  | with_reducible refine LH.x_c ?_
  | with_reducible refine LH.x_op ?_
  | with_reducible refine LH.x_gname ?_
  | with_reducible refine LH.x_nil ?_
  | with_reducible refine LH.x_I0 ?_
  | ((with_reducible refine LH.x_I ?k1 ?_); (case k1 => first | exact (by decide) | exact ⟨by decide, by decide⟩ | exact ⟨by decide, by decide, by decide⟩ | exact .inl ⟨by decide, by decide⟩ | exact .inr ⟨by decide, by decide⟩ | exact .inr ⟨by omega, by omega⟩ | exact .inl ⟨by omega, by omega⟩ | exact (by omega)))
  | with_reducible refine LH.x_test ?_
  | with_reducible refine LH.x_tB ?_
  | with_reducible refine LH.bx ?_
  | with_reducible refine LH.x_and ?_
  | with_reducible refine LH.x_or ?_
  | with_reducible refine LH.x_not ?_
  | with_reducible refine LH.x_call ?_
  | with_reducible refine LH.x_cb ?_
  | with_reducible refine LH.x_lst ?_
  | with_reducible refine LH.x_tup ?_
  | with_reducible refine LH.x_bm ?_
  | with_reducible refine LH.x_next ?_
  | with_reducible refine LH.x_cont ?_
  | with_reducible refine LH.x_un ?_
  | with_reducible refine LH.x_U ?_
  | with_reducible refine LH.x_eq (by with_unfolding_all exact rfl) ?_
  | with_reducible refine LH.x_ne (by with_unfolding_all exact rfl) ?_
  | with_reducible refine LH.x_andV ?_
  | with_reducible refine LH.x_orV ?_
  | with_reducible refine LH.x_notV ?_
  | with_reducible refine LH.band ?_
  | with_reducible refine LH.bor ?_
  | with_reducible refine LH.x_if ?_
  | with_reducible refine LH.x_chain ?_
  | with_reducible refine LH.chk ?_
  | with_reducible refine LH.x_callS ?_
  | with_reducible refine LH.x_callE ?_
  | with_reducible refine LH.x_callV ?_
  | with_reducible refine LH.x_lrg ?_
  | with_reducible refine LH.x_lcS ?_
  | with_reducible refine LH.x_lcR1 ?_
  | with_reducible refine LH.strv ?_
  | with_reducible refine LH.x_yes ?_
  | with_reducible refine LH.x_sl ?_
  | with_reducible refine LH.x_noPart ?_
  | with_reducible refine LH.x_part ?_
  | with_reducible refine LH.pav ?_
  | with_reducible refine LH.x_jnv ?_
  | with_reducible refine LH.x_join ?_
  | with_reducible refine LH.x_inS ?_
  | with_reducible refine LH.x_niS ?_
  | with_reducible refine LH.x_isB ?_
  | with_reducible refine LH.x_isnB ?_
  | with_reducible refine LH.x_gcons ?_
  | with_reducible refine LH.x_gnil ?_
  | with_reducible refine LH.x_intB ?_
  | with_reducible refine LH.x_orT ?_
  | with_reducible refine LH.x_isTy ?_
  | with_reducible refine LH.x_niTy ?_
  | with_reducible refine LH.x_split ?_
  | with_reducible refine LH.x_spv ?_
  | with_reducible refine LH.x_gsub ?_
  | with_reducible refine LH.x_fmt ?_
  | with_reducible refine LH.x_js0 ?_
  | with_reducible refine LH.x_js ?_
  | with_reducible refine LH.x_rg1 ?_
  | with_reducible refine LH.x_abs ?_
  | with_reducible refine LH.x_rg2 ?_
  | with_reducible refine LH.rg1v ?_
  | with_reducible refine LH.rg2v ?_
  | with_reducible refine LH.x_lenSetG ?_
  | with_reducible refine LH.x_lc ?_
  | with_reducible refine LH.x_fld ?_
  | with_reducible refine LH.x_sfld ?_
  | with_reducible refine LH.x_afld ?_
  | with_reducible refine LH.x_meth ?_
  | with_reducible refine LH.x_make ?_
  | with_reducible refine LH.x_methSl ?_
  | with_reducible refine LH.x_makeSl ?_
  | with_reducible refine LH.x_din ?_
  | with_reducible refine LH.x_dni ?_
  | with_reducible refine LH.x_dget ?_
  | with_reducible refine LH.x_dput ?_
  | with_reducible refine LH.x_dget2 ?_
  | with_reducible refine LH.x_dpop1 ?_
  | with_reducible refine LH.x_litems ?_
  | with_reducible refine LH.x_tru ?_
  | with_reducible refine LH.x_revL ?_
  | with_reducible refine LH.x_dsetT ?_
  | with_reducible refine LH.x_lvals ?_
  | with_reducible refine LH.br_nt ?_
  | with_reducible refine LH.br_nf ?_
  | with_reducible refine LH.br_t ?_
  | with_reducible refine LH.br_f ?_)
local macro_rules | `(tactic| walk_at "rs") => `(tactic| repeat (walk_at "rs1"))

section
variable {P : Program} {w : World} {K : PySem.W.Frag} {mg : Str → Option Value} {base : Heap} {a : Ad}
/-! ### marks, writes, names -/
def TW (F : Hp) (xs : List V) (ws : List Wrd) : Prop := Paired (fun x u => WT F x u) xs ws
theorem TW.up {F F' : Hp} {xs : List V} {ws : List Wrd} (e : Same F F') (h : TW F xs ws) : TW F' xs ws := LH.Paired.imp (fun _ _ q => q.up e) h
theorem TW.app {F : Hp} {xs ys : List V} {ws us : List Wrd} (h : TW F xs ws) (k : TW F ys us) : TW F (xs ++ ys) (ws ++ us) := by
  induction h with
  | nil => exact k
  | cons a _ ih => exact .cons a ih
/-- a deed whose answer is a list of words -/
def spTells (C : Addr) (f : HS → Wrd → HS) (t : HS → Wrd → List Wrd) (ok : HS → Wrd → Prop) : Sp := fun vs H Q _ => ∃ h st x u M, vs = [.ref (h : HA).p, x] ∧ Std C M H h st ∧ WT (LH.Fr M H) x u ∧ Fit st u ∧ ok st u ∧
  ∀ H' N h' r xs, Nxt C M H h (f st u) H' N h' → H r = none → r ∉ N → H' r = some (.lst xs) → TW (LH.Fr (N ++ M) H') xs (t st u) → Q (.ref r) H'
theorem inS8 {h : HA} : ∀ y, y ∈ [h.p, h.kn, h.ea, h.ma, h.ms, h.ro, h.ba, h.nm] → y ∈ h.S := fun y hy => by
  unfold HA.S
  simp only [List.mem_cons, List.not_mem_nil, or_false] at hy ⊢
  rcases hy with q | q | q | q | q | q | q | q <;> simp [q]
theorem ok_House__mark (T : Txt K mg a) : FnOk P w K mg base CX0 3 a.House__mark a.d_House__mark ["self", "word"] (spTells a.House HS.mark HS.markT fun st _ => st.size ≤ 19990) := by
  have G_House__learn := ok_House__learn (P := P) (w := w) (base := base) T
  refine T.F_House__mark.ok sc_House__mark (fun vs H Q E h => ?_) (fun cdv A outer s H vs Q E hr h => ?_)
  · obtain ⟨h, st, x, u, M, rfl, _⟩ := h
    rfl
  · obtain ⟨h, st, x, u, M, rfl, S, ⟨b, rfl, hb⟩, fit, sz, k⟩ := h
    obtain ⟨⟨dx, hp⟩, pkn, pea, ⟨kv, g1, l1, i1⟩, pms, pro, pba, pnm, nd, go⟩ := id S.at_
    obtain ⟨n1, n2, n3, n4, n5, n6, n7, n8, n9⟩ := HA.nes nd
    simp only [List.mem_cons, List.not_mem_nil, or_false, not_or] at n1 n2 n3 n4 n5 n6
    have hb' := LH.fr_le _ _ hb
    have bM := (LH.fr_some hb).2
    have sm := S.kl
    have HR_House__learn : Room 2 _ := hr.mono (by decide)
    refine ⟨_, (pss_cons (ps_asg (pv 1) (pg_tup rfl (pgs_cons (pg_name (i := 2) sc_House__mark.nd rfl (Or.inl rfl)) (pgs_cons (pg_name (i := 3) sc_House__mark.nd rfl (Or.inl rfl)) (pgs_cons (pg_name (i := 4) sc_House__mark.nd rfl (Or.inl rfl)) (pgs_cons (pg_name (i := 5) sc_House__mark.nd rfl (Or.inl rfl)) pgs_nil))))))
  (pss_cons (ps_if (PW.pt (pw_or (pt_cmpR op_ne (pv 2) (pe_glob (v := .str "say") rfl T.m_SAY ⟨_, rfl⟩) (nomark _)) (pw_or1 (pt_cmp (pc_din (hu_of hr) (pv 3) (pe_fld (pv 0) rfl))))))
    (pss_one (ps_ret (pe_lst pa_nil)))
    pss_nil)
  (pss_cons (ps_dput (hu_of hr) (pe_fld (pv 0) rfl) (pv 3) pe_bl rfl)
  (pss_cons (ps_set (i := 6) sc_House__mark.nd rfl (Or.inl rfl) (pe_tup (pa_cons (pe_glob (v := .str "mark") rfl T.m_MARK ⟨_, rfl⟩) (pa_cons (pv 3) (pa_cons (pv 4) (pa_cons (pe_fld (pv 0) rfl) pa_nil))))))
  (pss_cons (ps_expr (pe_meth (pv 0) T.cl_House T.me_House__learn G_House__learn HR_House__learn T.b_House__learn .nil pass0 (pa_cons (pv 6) pa_nil)))
  (pss_one (ps_ret (pe_lst (pa_cons (pv 6) pa_nil))))))))), ?_⟩
    walk_at "rd"
    refine LH.x_gtup (xs := wd u.k u.n u.r u.h) (SqT.of hb') rfl ?_
    walk_at "rs"
    -- nothing to mark
    have no : st.marks u = false → ∀ r (H1 : Hp), H r = none → Same H H1 → H1 r = some (.lst []) → Q (.ref r) H1 := fun e r H1 fr e1 g => by
      refine k H1 [] h r [] ?_ fr (by simp) g ?_
      · have : st.mark u = st := by unfold HS.mark; rw [if_neg (by rw [e]; exact Bool.false_ne_true)]
        rw [this]
        exact Nxt.refl S.at_ e1
      · have : st.markT u = [] := by unfold HS.markT; rw [if_neg (by rw [e]; exact Bool.false_ne_true)]
        rw [this]
        exact .nil
    walk_at "rd"
    rw [dstr]
    by_cases c : u.k = "say"
    · rw [decide_eq_true c]
      refine LH.br_f ?_
      walk_at "rd"
      refine LH.fldv hp T.cl_House T.na_House__marked rfl ?_
      refine LH.inv (LH.getI g1) ?_
      walk_at "rd"
      cases e : (valV kv (Sum.inl u.n)).isSome with
      | true =>
        walk_at "rd"
        have e2 : st.marks u = false := by unfold HS.marks; rw [decide_eq_true ((i1 u.n).mp e)]; simp
        refine LH.newl (LH.small rfl) fun r H1 f1 e1 g => ?_
        exact no e2 r H1 f1 e1 g
      | false =>
        walk_at "rd"
        have nin : u.n ∉ st.marked := fun m => by rw [(i1 u.n).mpr m] at e; cases e
        have e2 : st.marks u = true := by unfold HS.marks; rw [decide_eq_true c, decide_eq_false nin]; rfl
        refine LH.fldv hp T.cl_House T.na_House__marked rfl ?_
        walk_at "rd"
        refine LH.putvI g1 (by have := S.ml; omega) fun H1 k1 g1' => ?_
        walk_at "rd"
        refine LH.fldv (k1 _ _ hp n1.2.2.1) T.cl_House T.na_House__own rfl ?_
        walk_at "rd"
        refine LH.newt (LH.small rfl) fun t H2 f2 e2' g2 => ?_
        walk_at "rd"
        have kM : LH.Ks M H H1 := k1.ks (S.sub _ (inS8 _ (by simp)))
        have f1 : Same (LH.Fr M H) (LH.Fr M H1) := kM.fr
        let st1 : HS := { st with marked := st.marked ++ [u.n] }
        have at1 : HouseAt a.House (LH.Fr M H1) H1 h st1 := by
          refine ⟨⟨dx, k1 _ _ hp n1.2.2.1⟩, pkn.to fun o q => k1 _ _ q n2.2.1, pea.to f1 fun o q => k1 _ _ q n3.1, PMa.put l1 i1 g1', pms.to f1 fun y o hy q => ?_, pro.to fun o q => k1 _ _ q (Ne.symm n4.2.1), pba.to f1 fun o q => k1 _ _ q (Ne.symm n4.2.2.1), pnm.to f1 fun o q => k1 _ _ q (Ne.symm n4.2.2.2), nd, ?_⟩
          · rcases hy with rfl | hy
            · exact k1 _ _ q (Ne.symm n4.1)
            · have := n8 _ hy
              simp only [List.mem_cons, List.not_mem_nil, or_false, not_or] at this
              exact k1 _ _ q this.2.2.2.1
          · exact ⟨go.c1, go.c2, go.o1, go.o2, go.nd, go.wd, List.nodup_append.mpr ⟨go.mn, by simp, fun y hy z hz e => nin (by rw [List.mem_singleton.mp hz] at e; exact e ▸ hy)⟩, go.rn, go.bn, go.nn, go.rk, go.bk, go.nk⟩
        have S1 : Std a.House M H1 h st1 := ⟨at1, S.sub, fun y hy => by
            by_cases c1 : y = h.ma
            · rw [c1]; exact ⟨_, g1'⟩
            · obtain ⟨o, q⟩ := S.al y hy
              exact ⟨o, k1 _ _ q c1⟩, by
            show st.known.length + (st.marked ++ [u.n]).length + st.rows.length + st.named.length ≤ 20000
            rw [List.length_append, List.length_singleton]
            unfold HS.size at sz
            omega⟩
        have S2 := S1.same e2'
        have tM : t ∉ M := LH.not_in f2 S1.al
        refine LH.methv (e2' _ _ (k1 _ _ hp n1.2.2.1)) rfl ?_
        walk_at "rd"
        refine ⟨h, st1, .ref t, markOf st.own u, M, rfl, S2, ⟨t, rfl, LH.fr_of g2 tM⟩, ⟨⟨ok_markW, fit.1.2⟩, go.o1, go.o2⟩, fun H3 N h' nx => ?_⟩
        walk_at "rd"
        refine LH.newl (LH.small rfl) fun r H4 f4 e4 g4 => ?_
        have nx4 := nx.same e4
        have t3 : H3 t = some (.tup (markOf st.own u).vs) := nx.ks _ _ g2 fun m => tM (S.sub _ m)
        have rH : H r = none := by
          cases q : H r with
          | none => rfl
          | some o =>
            exfalso
            by_cases c1 : r ∈ h.S
            · obtain ⟨o2, q2⟩ := nx.at_.alive r (nx.sup r c1)
              rw [f4] at q2
              cases q2
            · rw [nx.ks _ _ (e2' _ _ (k1 _ _ q fun e => c1 (e ▸ inS8 _ (by simp)))) c1] at f4
              cases f4
        have rN : r ∉ N := fun m => by
          obtain ⟨o, q⟩ := nx.al r m
          rw [f4] at q
          cases q
        have em : st.mark u = st1.learn (markOf st.own u) := by unfold HS.mark; rw [if_pos e2]; rfl
        have et : st.markT u = [markOf st.own u] := by unfold HS.markT; rw [if_pos e2]
        refine k H4 N h' r _ ⟨fun y o q n => nx4.ks _ _ (e2' _ _ (k1 _ _ q fun e => n (e ▸ inS8 _ (by simp)))) n, fun y hy => ?_, nx4.al, nx4.p, nx4.sub, nx4.sup, by rw [em]; exact nx4.at_⟩ rH rN g4 ?_
        · cases q : H y with
          | none => rfl
          | some o =>
            have := nx.nw y hy
            by_cases c1 : y = h.ma
            · rw [c1, e2' _ _ g1'] at this
              cases this
            · rw [e2' _ _ (k1 _ _ q c1)] at this
              cases this
        · rw [et]
          refine .cons ⟨t, rfl, LH.fr_of (e4 _ _ t3) fun m => ?_⟩ .nil
          rcases List.mem_append.mp m with m | m
          · rw [nx.nw t m] at g2
            cases g2
          · exact tM m
    · rw [decide_eq_false c]
      refine LH.br_t ?_
      walk_at "rd"
      have e2 : st.marks u = false := by unfold HS.marks; rw [decide_eq_false c]; rfl
      refine LH.newl (LH.small rfl) fun r H1 f1 e1 g => ?_
      exact no e2 r H1 f1 e1 g
end
end K6
namespace K6
open PySem L2 LM HM
local macro_rules | `(tactic| walk_at "rd1") => `(tactic| first
  | with_reducible refine LH.x_seq ?_
  | with_reducible refine LH.x_asg ?_
  | with_reducible refine LH.x_cons ?_
  | with_reducible refine LH.x_var (by with_unfolding_all exact rfl) ?_
  | with_reducible refine LH.x_c ?_
  | with_reducible refine LH.x_op ?_
  | with_reducible refine LH.x_gname ?_
  | with_reducible refine LH.x_nil ?_
  | with_reducible refine LH.x_I0 ?_
  | ((with_reducible refine LH.x_I ?k1 ?_); (case k1 => first | exact (by decide) | exact ⟨by decide, by decide⟩ | exact ⟨by decide, by decide, by decide⟩ | exact .inl ⟨by decide, by decide⟩ | exact .inr ⟨by decide, by decide⟩ | exact .inr ⟨by omega, by omega⟩ | exact .inl ⟨by omega, by omega⟩ | exact (by omega)))
  | with_reducible refine LH.x_ifS ?_
  | with_reducible refine LH.x_test ?_
  | with_reducible refine LH.x_tB ?_
  | with_reducible refine LH.bx ?_
  | with_reducible refine LH.x_and ?_
  | with_reducible refine LH.x_or ?_
  | with_reducible refine LH.x_not ?_
  | with_reducible refine LH.x_ret ?_
  | with_reducible refine LH.x_call ?_
  | with_reducible refine LH.x_cb ?_
  | with_reducible refine LH.x_lst ?_
  | with_reducible refine LH.x_tup ?_
  | with_reducible refine LH.x_bm ?_
  | with_reducible refine LH.x_drop ?_
  | with_reducible refine LH.x_next ?_
  | with_reducible refine LH.x_cont ?_
  | with_reducible refine LH.x_un ?_
  | with_reducible refine LH.x_U ?_
  | with_reducible refine LH.x_eq (by with_unfolding_all exact rfl) ?_
  | with_reducible refine LH.x_ne (by with_unfolding_all exact rfl) ?_
  | with_reducible refine LH.x_andV ?_
  | with_reducible refine LH.x_orV ?_
  | with_reducible refine LH.x_notV ?_
  | with_reducible refine LH.band ?_
  | with_reducible refine LH.bor ?_
  | with_reducible refine LH.x_if ?_
  | with_reducible refine LH.x_chain ?_
  | with_reducible refine LH.chk ?_
  | with_reducible refine LH.x_callS ?_
  | with_reducible refine LH.x_callE ?_
  | with_reducible refine LH.x_callV ?_
  | with_reducible refine LH.x_lrg ?_
  | with_reducible refine LH.x_lcS ?_
  | with_reducible refine LH.x_lcR1 ?_
  | with_reducible refine LH.x_forR1 ?_
  | with_reducible refine LH.x_forR3 ?_
  | with_reducible refine LH.strv ?_
  | with_reducible refine LH.x_yes ?_
  | with_reducible refine LH.x_sl ?_
  | with_reducible refine LH.x_noPart ?_
  | with_reducible refine LH.x_part ?_
  | with_reducible refine LH.pav ?_
  | with_reducible refine LH.x_jnv ?_
  | with_reducible refine LH.x_join ?_
  | with_reducible refine LH.x_inS ?_
  | with_reducible refine LH.x_niS ?_
  | with_reducible refine LH.x_isB ?_
  | with_reducible refine LH.x_isnB ?_
  | with_reducible refine LH.x_gcons ?_
  | with_reducible refine LH.x_gnil ?_
  | with_reducible refine LH.x_intB ?_
  | with_reducible refine LH.x_orT ?_
  | with_reducible refine LH.x_isTy ?_
  | with_reducible refine LH.x_niTy ?_
  | with_reducible refine LH.x_split ?_
  | with_reducible refine LH.x_spv ?_
  | with_reducible refine LH.x_gsub ?_
  | with_reducible refine LH.x_fmt ?_
  | with_reducible refine LH.x_js0 ?_
  | with_reducible refine LH.x_js ?_
  | with_reducible refine LH.x_rg1 ?_
  | with_reducible refine LH.x_forL ?_
  | with_reducible refine LH.x_abs ?_
  | with_reducible refine LH.x_rg2 ?_
  | with_reducible refine LH.rg1v ?_
  | with_reducible refine LH.rg2v ?_
  | with_reducible refine LH.x_forR2 ?_
  | with_reducible refine LH.x_lenSetG ?_
  | with_reducible refine LH.x_lc ?_
  | with_reducible refine LH.x_fld ?_
  | with_reducible refine LH.x_sfld ?_
  | with_reducible refine LH.x_afld ?_
  | with_reducible refine LH.x_meth ?_
  | with_reducible refine LH.x_make ?_
  | with_reducible refine LH.x_methSl ?_
  | with_reducible refine LH.x_makeSl ?_
  | with_reducible refine LH.x_din ?_
  | with_reducible refine LH.x_dni ?_
  | with_reducible refine LH.x_dget ?_
  | with_reducible refine LH.x_dput ?_
  | with_reducible refine LH.x_dget2 ?_
  | with_reducible refine LH.x_dpop1 ?_
  | with_reducible refine LH.x_litems ?_
  | with_reducible refine LH.x_tru ?_
  | with_reducible refine LH.x_revL ?_
  | with_reducible refine LH.x_dsetT ?_
  | with_reducible refine LH.x_lvals ?_
  | with_reducible refine LH.br_nt ?_
  | with_reducible refine LH.br_nf ?_
  | with_reducible refine LH.br_t ?_
  | with_reducible refine LH.br_f ?_)
local macro_rules | `(tactic| walk_at "rd") => `(tactic| repeat (walk_at "rd1"))
local macro_rules | `(tactic| walk_at "rs1") => `(tactic| first
  | with_reducible refine LH.x_seq ?_
  | with_reducible refine LH.x_cons ?_
  | with_reducible refine LH.x_var (by with_unfolding_all exact rfl) ?_
  | with_reducible refine LH.x_c ?_
  | with_reducible refine LH.x_op ?_
  | with_reducible refine LH.x_gname ?_
  | with_reducible refine LH.x_nil ?_
  | with_reducible refine LH.x_I0 ?_
  | ((with_reducible refine LH.x_I ?k1 ?_); (case k1 => first | exact (by decide) | exact ⟨by decide, by decide⟩ | exact ⟨by decide, by decide, by decide⟩ | exact .inl ⟨by decide, by decide⟩ | exact .inr ⟨by decide, by decide⟩ | exact .inr ⟨by omega, by omega⟩ | exact .inl ⟨by omega, by omega⟩ | exact (by omega)))
  | with_reducible refine LH.x_test ?_
  | with_reducible refine LH.x_tB ?_
  | with_reducible refine LH.bx ?_
  | with_reducible refine LH.x_and ?_
  | with_reducible refine LH.x_or ?_
  | with_reducible refine LH.x_not ?_
  | with_reducible refine LH.x_call ?_
  | with_reducible refine LH.x_cb ?_
  | with_reducible refine LH.x_lst ?_
  | with_reducible refine LH.x_tup ?_
  | with_reducible refine LH.x_bm ?_
  | with_reducible refine LH.x_next ?_
  | with_reducible refine LH.x_cont ?_
  | with_reducible refine LH.x_un ?_
  | with_reducible refine LH.x_U ?_
  | with_reducible refine LH.x_eq (by with_unfolding_all exact rfl) ?_
  | with_reducible refine LH.x_ne (by with_unfolding_all exact rfl) ?_
  | with_reducible refine LH.x_andV ?_
  | with_reducible refine LH.x_orV ?_
  | with_reducible refine LH.x_notV ?_
  | with_reducible refine LH.band ?_
  | with_reducible refine LH.bor ?_
  | with_reducible refine LH.x_if ?_
  | with_reducible refine LH.x_chain ?_
  | with_reducible refine LH.chk ?_
  | with_reducible refine LH.x_callS ?_
  | with_reducible refine LH.x_callE ?_
  | with_reducible refine LH.x_callV ?_
  | with_reducible refine LH.x_lrg ?_
  | with_reducible refine LH.x_lcS ?_
  | with_reducible refine LH.x_lcR1 ?_
  | with_reducible refine LH.strv ?_
  | with_reducible refine LH.x_yes ?_
  | with_reducible refine LH.x_sl ?_
  | with_reducible refine LH.x_noPart ?_
  | with_reducible refine LH.x_part ?_
  | with_reducible refine LH.pav ?_
  | with_reducible refine LH.x_jnv ?_
  | with_reducible refine LH.x_join ?_
  | with_reducible refine LH.x_inS ?_
  | with_reducible refine LH.x_niS ?_
  | with_reducible refine LH.x_isB ?_
  | with_reducible refine LH.x_isnB ?_
  | with_reducible refine LH.x_gcons ?_
  | with_reducible refine LH.x_gnil ?_
  | with_reducible refine LH.x_intB ?_
  | with_reducible refine LH.x_orT ?_
  | with_reducible refine LH.x_isTy ?_
  | with_reducible refine LH.x_niTy ?_
  | with_reducible refine LH.x_split ?_
  | with_reducible refine LH.x_spv ?_
  | with_reducible refine LH.x_gsub ?_
  | with_reducible refine LH.x_fmt ?_
  | with_reducible refine LH.x_js0 ?_
  | with_reducible refine LH.x_js ?_
  | with_reducible refine LH.x_rg1 ?_
  | with_reducible refine LH.x_abs ?_
  | with_reducible refine LH.x_rg2 ?_
  | with_reducible refine LH.rg1v ?_
  | with_reducible refine LH.rg2v ?_
  | with_reducible refine LH.x_lenSetG ?_
  | with_reducible refine LH.x_lc ?_
  | with_reducible refine LH.x_fld ?_
  | with_reducible refine LH.x_sfld ?_
  | with_reducible refine LH.x_afld ?_
  | with_reducible refine LH.x_meth ?_
  | with_reducible refine LH.x_make ?_
  | with_reducible refine LH.x_methSl ?_
  | with_reducible refine LH.x_makeSl ?_
  | with_reducible refine LH.x_din ?_
  | with_reducible refine LH.x_dni ?_
  | with_reducible refine LH.x_dget ?_
  | with_reducible refine LH.x_dput ?_
  | with_reducible refine LH.x_dget2 ?_
  | with_reducible refine LH.x_dpop1 ?_
  | with_reducible refine LH.x_litems ?_
  | with_reducible refine LH.x_tru ?_
  | with_reducible refine LH.x_revL ?_
  | with_reducible refine LH.x_dsetT ?_
  | with_reducible refine LH.x_lvals ?_
  | with_reducible refine LH.br_nt ?_
  | with_reducible refine LH.br_nf ?_
  | with_reducible refine LH.br_t ?_
  | with_reducible refine LH.br_f ?_)
local macro_rules | `(tactic| walk_at "rs") => `(tactic| repeat (walk_at "rs1"))

section
variable {P : Program} {w : World} {K : PySem.W.Frag} {mg : Str → Option Value} {base : Heap} {a : Ad}
theorem paired_left {α β : Type} {F : α → β → Prop} : ∀ {xs : List α} {ys : List β}, Paired F xs ys → ∀ x ∈ xs, ∃ y ∈ ys, F x y
  | _, _, .nil, _, h => by cases h
  | _, _, .cons (b := b) f r, x, h => by
    rcases List.mem_cons.mp h with rfl | h
    · exact ⟨b, List.mem_cons_self, f⟩
    · obtain ⟨y, hy, e⟩ := paired_left r x h
      exact ⟨y, List.mem_cons_of_mem _ hy, e⟩
theorem rows_in {α : Type} {l : List α} {f : α → Int} {g : α → V} {n : Int} : (valV (l.map fun e => ((Sum.inl (f e) : Key), g e)) (Sum.inl n)).isSome = decide (n ∈ l.map f) := by
  unfold valV
  induction l with
  | nil => rfl
  | cons e l ih =>
    simp only [List.map_cons, List.find?_cons, List.mem_cons]
    by_cases c : f e = n
    · have : decide ((Sum.inl (f e) : Key) = Sum.inl n) = true := by simp [c]
      simp [c]
    · have h1 : ¬ n = f e := fun q => c q.symm
      have : decide ((Sum.inl (f e) : Key) = Sum.inl n) = false := by simp [c]
      rw [this]
      simp only [h1, false_or]
      exact ih
theorem rise_of {c : Int} {l : List Wrd} {ks : List Int} (so : ks.Pairwise (· ≤ ·)) (nd : ks.Nodup) (me : ∀ k, k ∈ ks ↔ k ∈ l.map (·.h)) (rg : ∀ w ∈ l, 0 ≤ w.h ∧ w.h < c) :
    rise c l = ks.filterMap fun k => l.find? fun w => decide (w.h = k) := by
  have e : ks = ((List.range c.toNat).map fun n : Nat => (n : Int)).filter fun k => decide (k ∈ ks) := by
    refine rise_eq so ?_ nd ?_ fun k => ?_
    · exact List.Pairwise.filter _ (List.pairwise_map.mpr (List.Pairwise.imp (fun h => Int.ofNat_le.mpr (Nat.le_of_lt h)) List.pairwise_lt_range))
    · exact List.Pairwise.filter _ (List.pairwise_map.mpr (List.Pairwise.imp (fun h q => Nat.ne_of_lt h (Int.ofNat.inj q)) List.pairwise_lt_range))
    · rw [List.mem_filter, List.mem_map, decide_eq_true_eq]
      refine ⟨fun h => ⟨?_, h⟩, fun h => h.2⟩
      obtain ⟨w, hw, rfl⟩ := List.mem_map.mp ((me k).mp h)
      obtain ⟨r1, r2⟩ := rg w hw
      exact ⟨w.h.toNat, List.mem_range.mpr (by omega), by omega⟩
  have e2 : ∀ L : List Int, (L.filter fun k => decide (k ∈ ks)).filterMap (fun k => l.find? fun w => decide (w.h = k)) = L.filterMap fun k => l.find? fun w => decide (w.h = k) := fun L => by
    induction L with
    | nil => rfl
    | cons k L ih =>
      by_cases m : k ∈ ks
      · rw [List.filter_cons_of_pos (by simpa using m), List.filterMap_cons, List.filterMap_cons, ih]
      · rw [List.filter_cons_of_neg (by simpa using m), List.filterMap_cons, ih]
        have : l.find? (fun w => decide (w.h = k)) = none := List.find?_eq_none.mpr fun w hw q => m ((me k).mpr (List.mem_map.mpr ⟨w, hw, by simpa using q⟩))
        rw [this]
  have e3 := e2 ((List.range c.toNat).map fun n : Nat => (n : Int))
  rw [← e, List.filterMap_map] at e3
  rw [e3]
  rfl
theorem paired_find {G : V → Wrd → Prop} {v : Int → V} {f : Int → Option Wrd} : ∀ ks : List Int, (∀ k ∈ ks, ∃ w, f k = some w ∧ G (v k) w) → Paired G (ks.map v) (ks.filterMap f)
  | [], _ => .nil
  | k :: ks, h => by
    obtain ⟨w, h1, h2⟩ := h k (List.mem_cons_self ..)
    rw [List.filterMap_cons, h1]
    exact .cons h2 (paired_find ks fun k hk => h k (List.mem_cons_of_mem _ hk))
theorem nodup_map_on {α β : Type} {f : α → β} : ∀ {l : List α}, l.Nodup → (∀ a ∈ l, ∀ b ∈ l, f a = f b → a = b) → (l.map f).Nodup
  | [], _, _ => List.nodup_nil
  | a :: l, nd, h => by
    rw [List.map_cons, List.nodup_cons]
    have nd := List.nodup_cons.mp nd
    refine ⟨fun m => ?_, nodup_map_on nd.2 fun x hx y hy => h x (List.mem_cons_of_mem _ hx) y (List.mem_cons_of_mem _ hy)⟩
    obtain ⟨b, hb, e⟩ := List.mem_map.mp m
    exact nd.1 (h a (List.mem_cons_self ..) b (List.mem_cons_of_mem _ hb) e.symm ▸ hb)
theorem marks_nodup {st : HS} (go : Good st) (k : List Key) : ((marksOf st.known k).map (·.h)).Nodup :=
  nodup_map_on (go.nd.filter _) fun x hx y hy e => mark_eq (List.mem_filter.mp hx).2 (List.mem_filter.mp hy).2 e
theorem marks_few {st : HS} (go : Good st) (k : List Key) : (marksOf st.known k).length ≤ 12 := by
  have := nodup_le 12 ((marksOf st.known k).map (·.h)) (marks_nodup go k) fun x hx => by
    obtain ⟨w, hw, rfl⟩ := List.mem_map.mp hx
    have := go.wd w (List.mem_filter.mp hw).1
    have := go.c2
    exact ⟨by omega, by omega⟩
  rwa [List.length_map] at this
theorem ok_House__write (T : Txt K mg a) : FnOk P w K mg base CX0 5 a.House__write a.d_House__write ["self", "word"] (spTells a.House HS.write HS.backT fun st _ => st.size ≤ 19990) := by
  have G_enough := ok_enough (P := P) (w := w) (base := base) T
  refine T.F_House__write.ok sc_House__write (fun vs H Q E h => ?_) (fun cdv A outer s H vs Q E hr h => ?_)
  · obtain ⟨h, st, x, u, M, rfl, _⟩ := h
    rfl
  · obtain ⟨h, st, x, u, M, rfl, S, ⟨b, rfl, hb⟩, fit, sz, k⟩ := h
    obtain ⟨⟨dx, hp⟩, pkn, pea, pma, pms, pro, pba, pnm, nd, go⟩ := id S.at_
    obtain ⟨n1, n2, n3, n4, n5, n6, n7, n8, n9⟩ := HA.nes nd
    simp only [List.mem_cons, List.not_mem_nil, or_false, not_or] at n1 n2 n3 n4 n5 n6
    have hb' := LH.fr_le _ _ hb
    have sm := S.kl
    have few := marks_few go (nr u)
    have HR_enough : Room 4 _ := hr.mono (by decide)
    refine ⟨_, (pss_cons (ps_asg (pv 1) (pg_tup rfl (pgs_cons (pg_name (i := 2) sc_House__write.nd rfl (Or.inl rfl)) (pgs_cons (pg_name (i := 3) sc_House__write.nd rfl (Or.inl rfl)) (pgs_cons (pg_name (i := 4) sc_House__write.nd rfl (Or.inl rfl)) (pgs_cons (pg_name (i := 5) sc_House__write.nd rfl (Or.inl rfl)) pgs_nil))))))
  (pss_cons (ps_set (i := 6) sc_House__write.nd rfl (Or.inr rfl) (pe_dget2 (hu_of hr) (pe_fld (pv 0) rfl) (pe_tup (pa_cons (pv 3) (pa_cons (pv 4) pa_nil))) pe_dnewK ⟨rfl, rfl, rfl, rfl⟩))
  (pss_cons (ps_if (PW.pt (pw_or (pt_cmp (pc_din (hu_of hr) (pv 3) (pe_fld (pv 0) rfl))) (pw_or1 (pt_cmpR op_lt (pe_callB LH.call_lenDk rfl T.n_len (by decide +kernel) (pa_cons (pv 6) pa_nil)) (pe_call G_enough HR_enough rfl T.g_enough T.F_enough.kp T.b_enough .nil LH.passN (pa_cons (pe_fld (pv 0) rfl) pa_nil)) (nomark _)))))
    (pss_one (ps_ret (pe_lst pa_nil)))
    pss_nil)
  (pss_cons (ps_dput (hu_of hr) (pe_fld (pv 0) rfl) (pv 3) (pv 4) rfl)
  (pss_cons (ps_dput (hu_of hr) (pe_fld (pv 0) rfl) (pv 3) (pe_lc (own := [("marker", 7)]) (g := gName 7) (tt := tYes) rfl sc_House__write.nd (pi_list (pe_callB (LH.call_srtD rfl) rfl T.n_sorted (by decide +kernel) (pa_cons (pv 6) pa_nil))) (blkOk_by (N := N_House__write) (sc := defScope s_House__write) (by decide +kernel)) (fun _ _ _ _ _ => pg_name (i := 7) sc_House__write.nd rfl (Or.inl rfl)) (fun _ _ _ _ _ => pts_nil) (fun _ _ _ _ _ => (pe_dget (hu_of hr) (pv 6) (pv 7) (fun _ _ => rfl)))) rfl)
  (pss_one (ps_ret (pe_callTy (r := LH.rListOf K) LH.call_listOf rfl T.n_list (by decide +kernel) (pa_cons (pe_dget (hu_of hr) (pe_fld (pv 0) rfl) (pv 3) (fun _ _ => rfl)) pa_nil))))))))), ?_⟩
    walk_at "rd"
    refine LH.x_gtup (xs := wd u.k u.n u.r u.h) (SqT.of hb') rfl ?_
    walk_at "rs"
    refine LH.x_asg ?_
    refine LH.cut (fun y H1 => Same H H1 ∧ ∃ d kvs, y = .ref d ∧ H1 d = some (.dK kvs) ∧ kvs.map (·.1) = (marksOf st.known (nr u)).map (fun w => (Sum.inl w.h : Key)) ∧ ∀ w ∈ marksOf st.known (nr u), ∃ x, valV kvs (Sum.inl w.h) = some x ∧ WT (LH.Fr M H) x w) (fun Q1 q1 => ?_) ?_
    · walk_at "rd"
      refine LH.fldv hp T.cl_House T.na_House__marks rfl ?_
      refine LH.get2v (LH.isdT pms.dt) ?_
      walk_at "rd"
      refine LH.newt (LH.small rfl) fun t H1 f1 e1 g1 => ?_
      walk_at "rd"
      refine LH.x_dnew fun p H2 f2 e2 g2 => ?_
      have e12 := e1.trans e2
      refine LH.get2w (LH.getT (k := nr u) (e12 _ _ pms.dt) (e2 _ _ g1)) ?_
      cases hv : valV (h.ins.map fun e => (e.1, V.ref e.2)) (nr u) with
      | some v =>
        obtain ⟨e, he, ee, rfl⟩ := lookup_ins hv
        obtain ⟨kvs, h1, h2, h3⟩ := pms.inn e he
        rw [ee] at h2 h3
        exact q1 _ _ ⟨e12, e.2, kvs, rfl, e12 _ _ h1, h2, h3⟩
      | none =>
        have nil : marksOf st.known (nr u) = [] := by
          cases q : marksOf st.known (nr u) with
          | nil => rfl
          | cons z zs => exact absurd ((pms.all _).mp (by rw [q]; exact List.cons_ne_nil _ _)) (no_ins hv)
        refine q1 _ _ ⟨e12, p, [], rfl, g2, ?_, fun w hw => ?_⟩
        · rw [nil]
          rfl
        · rw [nil] at hw
          cases hw
    · rintro y H1 ⟨e1, d, kvm, rfl, gm, km, vm⟩
      have len : kvm.length = (marksOf st.known (nr u)).length := by
        have := congrArg List.length km
        rwa [List.length_map, List.length_map] at this
      have no : st.writes u = false → ∀ r (H2 : Hp), H r = none → Same H H2 → H2 r = some (.lst []) → Q (.ref r) H2 := fun e r H2 fr e1 g => by
        refine k H2 [] h r [] ?_ fr (by simp) g ?_
        · have : st.write u = st := by unfold HS.write; rw [if_neg (by rw [e]; exact Bool.false_ne_true)]
          rw [this]
          exact Nxt.refl S.at_ e1
        · have : st.backT u = [] := by unfold HS.backT; rw [if_neg (by rw [e]; exact Bool.false_ne_true)]
          rw [this]
          exact .nil
      walk_at "rd"
      refine LH.fldv (e1 _ _ hp) T.cl_House T.na_House__rows rfl ?_
      refine LH.inv (LH.getI (e1 _ _ pro)) ?_
      rw [rows_in]
      walk_at "rd"
      by_cases c : u.n ∈ st.rows.map (·.1)
      · rw [decide_eq_true c]
        walk_at "rd"
        refine LH.newl (LH.small rfl) fun r H2 f2 e2 g2 => ?_
        exact no (by unfold HS.writes; rw [decide_eq_true c]; rfl) r H2 (LH.Same.none e1 f2) (e1.trans e2) g2
      · rw [decide_eq_false c]
        walk_at "rd"
        refine LH.x_lenDk gm ?_
        walk_at "rd"
        refine LH.fldv (e1 _ _ hp) T.cl_House T.na_House__count rfl ?_
        walk_at "rd"
        refine ⟨st.c, rfl, go.c1, go.c2, ?_⟩
        walk_at "rd"
        rw [len]
        by_cases c2 : ((marksOf st.known (nr u)).length : Int) < en st.c
        · rw [decide_eq_true c2]
          walk_at "rd"
          refine LH.newl (LH.small rfl) fun r H2 f2 e2 g2 => ?_
          exact no (by unfold HS.writes; rw [decide_eq_false (show ¬ en st.c ≤ ((marksOf st.known (nr u)).length : Int) by omega), Bool.and_false]) r H2 (LH.Same.none e1 f2) (e1.trans e2) g2
        · rw [decide_eq_false c2]
          walk_at "rd"
          have yes : st.writes u = true := by unfold HS.writes; rw [decide_eq_true (show en st.c ≤ ((marksOf st.known (nr u)).length : Int) by omega), decide_eq_false c]; rfl
          refine LH.fldv (e1 _ _ hp) T.cl_House T.na_House__rows rfl ?_
          walk_at "rd"
          refine LH.putvI (e1 _ _ pro) (by rw [List.length_map]; have := S.rl; omega) fun H2 k2 g2 => ?_
          have noro : valV (st.rows.map fun e => ((Sum.inl e.1 : Key), V.str e.2)) (Sum.inl u.n) = none := by
            have := rows_in (l := st.rows) (f := fun e => e.1) (g := fun e => V.str e.2) (n := u.n)
            rw [decide_eq_false c] at this
            cases q : valV (st.rows.map fun e => ((Sum.inl e.1 : Key), V.str e.2)) (Sum.inl u.n) with
            | none => rfl
            | some z => rw [q] at this; cases this
          rw [putK_new _ noro] at g2
          walk_at "rd"
          have dro : d ≠ h.ro := fun q => by
            rw [q, e1 _ _ pro] at gm
            injection gm with gm
            injection gm with gm
            rw [← gm] at km vm
            have lenr : (marksOf st.known (nr u)).length = st.rows.length := by rw [← len, ← gm, List.length_map]
            cases q2 : marksOf st.known (nr u) with
            | nil =>
              rw [q2] at c2
              have := go.c1
              unfold en at c2
              simp at c2
              omega
            | cons z zs =>
              obtain ⟨x, h1, ⟨y, rfl, h2⟩⟩ := vm z (by rw [q2]; exact List.mem_cons_self ..)
              unfold valV at h1
              obtain ⟨e, he, q3⟩ := Option.map_eq_some_iff.mp h1
              obtain ⟨z, _, rfl⟩ := List.mem_map.mp (List.mem_of_find?_eq_some he)
              cases q3
          refine LH.x_srtD (ks := (marksOf st.known (nr u)).map (·.h)) (k2 _ _ gm dro) (by rw [km, List.map_map]; rfl) (by rw [List.length_map]; omega) fun ys s H3 per so f3 e3 g3 => ?_
          have ynd : ys.Nodup := per.nodup_iff.mpr (marks_nodup go _)
          have yme : ∀ j, j ∈ ys ↔ j ∈ (marksOf st.known (nr u)).map (·.h) := fun j => per.mem_iff
          let val : V → V := fun x => match x with | .int j => (valV kvm (Sum.inl j)).getD .non | _ => .non
          have fnd : ∀ j ∈ ys, ∃ w, (marksOf st.known (nr u)).find? (fun w => decide (w.h = j)) = some w ∧ valV kvm (Sum.inl j) = some (val (.int j)) ∧ WT (LH.Fr M H) (val (.int j)) w := fun j hj => by
            obtain ⟨w, hw, rfl⟩ := List.mem_map.mp ((yme j).mp hj)
            cases q : (marksOf st.known (nr u)).find? (fun z => decide (z.h = w.h)) with
            | none =>
              have := List.find?_eq_none.mp q w hw
              simp at this
            | some z =>
              have e : z.h = w.h := by simpa using List.find?_some q
              obtain ⟨x, h1, h2⟩ := vm z (List.mem_of_find?_eq_some q)
              rw [e] at h1
              refine ⟨z, rfl, ?_, ?_⟩
              · show _ = some ((valV kvm (Sum.inl w.h)).getD .non)
                rw [h1]
                rfl
              · show WT _ ((valV kvm (Sum.inl w.h)).getD .non) z
                rw [h1]
                exact h2
          refine LH.lc_L (SqL.of g3) (by rw [List.length_map, per.length_eq, List.length_map]; omega) (fun _ => true) val (fun _ => rfl) ?_ ?_ fun r H4 f4 e4 g4 => ?_
          · intro x hx H5 e5 Q3 q3
            walk_at "rd"
            exact q3 _ (Same.refl _)
          · intro x hx _ H5 e5 Q3 q3
            obtain ⟨j, hj, rfl⟩ := List.mem_map.mp hx
            obtain ⟨z, _, h1, _⟩ := fnd j hj
            walk_at "rd"
            refine LH.getv (LH.getI ((e3.trans e5) _ _ (k2 _ _ gm dro))) h1 ?_
            exact q3 _ (Same.refl H5)
          · rw [List.filter_eq_self.mpr (fun _ _ => rfl), List.map_map] at g4
            walk_at "rd"
            have e34 := e3.trans e4
            refine LH.fldv (e34 _ _ (k2 _ _ (e1 _ _ hp) n1.2.2.2.2.1)) T.cl_House T.na_House__backings rfl ?_
            walk_at "rd"
            obtain ⟨kvb, gb, pb⟩ := pba
            have lb : kvb.length = st.rows.length := by
              rw [LH.Paired.len pb]
              have := congrArg List.length go.bn
              rwa [List.length_map, List.length_map] at this
            refine LH.putvI (e34 _ _ (k2 _ _ (e1 _ _ gb) (Ne.symm n6.1))) (by have := S.rl; omega) fun H5 k5 g5 => ?_
            walk_at "rd"
            have rba : r ≠ h.ba := fun q => by
              rw [q, e3 _ _ (k2 _ _ (e1 _ _ gb) (Ne.symm n6.1))] at f4
              cases f4
            have g4' : H5 r = some (.lst (ys.map (val ∘ V.int))) := k5 _ _ g4 rba
            have keep5 : ∀ y o, H y = some o → y ≠ h.ro → y ≠ h.ba → H5 y = some o := fun y o q q1 q2 => k5 _ _ (e34 _ _ (k2 _ _ (e1 _ _ q) q1)) q2
            refine LH.fldv (keep5 _ _ hp n1.2.2.2.2.1 n1.2.2.2.2.2.1) T.cl_House T.na_House__backings rfl ?_
            walk_at "rd"
            refine LH.getv (LH.getI g5) (by rw [valV_put, if_pos rfl]) ?_
            walk_at "rd"
            refine LH.x_listOf (.inl (SqL.of g4')) fun l H6 f6 e6 g6 => ?_
            have rise_ : rise st.c (marksOf st.known (nr u)) = ys.filterMap fun j => (marksOf st.known (nr u)).find? fun w => decide (w.h = j) :=
              rise_of so ynd yme fun w hw => (go.wd w (List.mem_filter.mp hw).1).2
            have tw : TW (LH.Fr M H) (ys.map (val ∘ V.int)) (rise st.c (marksOf st.known (nr u))) := by
              rw [rise_]
              exact paired_find ys fun j hj => let ⟨w, h1, _, h3⟩ := fnd j hj; ⟨w, h1, h3⟩
            have keep6 : ∀ y o, H y = some o → y ≠ h.ro → y ≠ h.ba → H6 y = some o := fun y o q q1 q2 => e6 _ _ (keep5 y o q q1 q2)
            have ks6 : LH.Ks h.S H H6 := fun y o q n => keep6 y o q (fun e => n (e ▸ inS8 _ (by simp))) (fun e => n (e ▸ inS8 _ (by simp)))
            have fM : Same (LH.Fr M H) (LH.Fr ([] ++ M) H6) := (ks6.sub S.sub).fr
            have rnone : ∀ y, H6 y ≠ none → H y = none → True := fun _ _ _ => trivial
            have rH : H r = none := by
              cases q : H r with
              | none => rfl
              | some o =>
                exfalso
                by_cases c3 : r = h.ro
                · rw [c3, e3 _ _ g2] at f4
                  cases f4
                · rw [e3 _ _ (k2 _ _ (e1 _ _ q) c3)] at f4
                  cases f4
            have rM : r ∉ M := LH.not_in rH S.al
            have lH : H l = none := by
              cases q : H l with
              | none => rfl
              | some o =>
                exfalso
                by_cases c3 : l = h.ro
                · rw [c3, k5 _ _ (e34 _ _ g2) n6.1] at f6
                  cases f6
                · by_cases c4 : l = h.ba
                  · rw [c4, g5] at f6
                    cases f6
                  · rw [keep5 _ _ q c3 c4] at f6
                    cases f6
            have ew : st.write u = { st with rows := st.rows ++ [(u.n, u.r)], backs := st.backs ++ [(u.n, rise st.c (marksOf st.known (nr u)))] } := by unfold HS.write; rw [if_pos yes]
            have et : st.backT u = rise st.c (marksOf st.known (nr u)) := by unfold HS.backT; rw [if_pos yes]
            have gow : Good (st.write u) := go.write fit.1
            refine k H6 [] h l _ ⟨ks6, (fun _ m => by cases m), (fun _ m => by cases m), rfl, fun y q => .inl q, fun y q => q, ?_⟩ lH (by simp) g6 (by rw [et]; exact tw.up fM)
            rw [ew] at gow ⊢
            refine ⟨⟨dx, keep6 _ _ hp n1.2.2.2.2.1 n1.2.2.2.2.2.1⟩, pkn.to fun o q => keep6 _ o q n2.2.2.2.1 n2.2.2.2.2.1, pea.to fM fun o q => keep6 _ o q n3.2.2.1 n3.2.2.2.1, pma.to fun o q => keep6 _ o q n4.2.1 n4.2.2.1, pms.to fM fun y o hy q => ?_, ?_, ?_, pnm.to fM fun o q => keep6 _ o q (Ne.symm n6.2) (Ne.symm n7), nd, gow⟩
            · rcases hy with rfl | hy
              · exact keep6 _ _ q n5.1 n5.2.1
              · have := n8 _ hy
                simp only [List.mem_cons, List.not_mem_nil, or_false, not_or] at this
                exact keep6 _ _ q this.2.2.2.2.2.1 this.2.2.2.2.2.2.1
            · show H6 h.ro = some (.dK ((st.rows ++ [(u.n, u.r)]).map fun e => (Sum.inl e.1, V.str e.2)))
              rw [List.map_append]
              exact e6 _ _ (k5 _ _ (e34 _ _ g2) n6.1)
            · have nob : valV kvb (Sum.inl u.n) = none := by
                cases q : valV kvb (Sum.inl u.n) with
                | none => rfl
                | some z =>
                  exfalso
                  unfold valV at q
                  obtain ⟨e, he, _⟩ := Option.map_eq_some_iff.mp q
                  obtain ⟨x, hx, q1, _⟩ := paired_left pb _ (List.mem_of_find?_eq_some he)
                  have q2 : e.1 = Sum.inl u.n := by simpa using List.find?_some he
                  rw [q1] at q2
                  exact c (by rw [← go.bn]; exact List.mem_map.mpr ⟨x, hx, Sum.inl.inj q2⟩)
              refine ⟨_, e6 _ _ g5, ?_⟩
              rw [putK_new _ nob]
              exact LH.Paired.snoc (LH.Paired.imp (fun _ _ q => ⟨q.1, q.2.up fM⟩) pb) ⟨rfl, r, _, rfl, LH.fr_of (e6 _ _ g4') (by simpa using rM), tw.up fM⟩
end
end K6
namespace K6
open PySem L2 LM HM
local macro_rules | `(tactic| walk_at "rd1") => `(tactic| first
  | with_reducible refine LH.x_seq ?_
  | with_reducible refine LH.x_asg ?_
  | with_reducible refine LH.x_cons ?_
  | with_reducible refine LH.x_var (by with_unfolding_all exact rfl) ?_
  | with_reducible refine LH.x_c ?_
  | with_reducible refine LH.x_op ?_
  | with_reducible refine LH.x_gname ?_
  | with_reducible refine LH.x_nil ?_
  | with_reducible refine LH.x_I0 ?_
  | ((with_reducible refine LH.x_I ?k1 ?_); (case k1 => first | exact (by decide) | exact ⟨by decide, by decide⟩ | exact ⟨by decide, by decide, by decide⟩ | exact .inl ⟨by decide, by decide⟩ | exact .inr ⟨by decide, by decide⟩ | exact .inr ⟨by omega, by omega⟩ | exact .inl ⟨by omega, by omega⟩ | exact (by omega)))
  | with_reducible refine LH.x_ifS ?_
  | with_reducible refine LH.x_test ?_
  | with_reducible refine LH.x_tB ?_
  | with_reducible refine LH.bx ?_
  | with_reducible refine LH.x_and ?_
  | with_reducible refine LH.x_or ?_
  | with_reducible refine LH.x_not ?_
  | with_reducible refine LH.x_ret ?_
  | with_reducible refine LH.x_call ?_
  | with_reducible refine LH.x_cb ?_
  | with_reducible refine LH.x_lst ?_
  | with_reducible refine LH.x_tup ?_
  | with_reducible refine LH.x_bm ?_
  | with_reducible refine LH.x_drop ?_
  | with_reducible refine LH.x_next ?_
  | with_reducible refine LH.x_cont ?_
  | with_reducible refine LH.x_un ?_
  | with_reducible refine LH.x_U ?_
  | with_reducible refine LH.x_eq (by with_unfolding_all exact rfl) ?_
  | with_reducible refine LH.x_ne (by with_unfolding_all exact rfl) ?_
  | with_reducible refine LH.x_andV ?_
  | with_reducible refine LH.x_orV ?_
  | with_reducible refine LH.x_notV ?_
  | with_reducible refine LH.band ?_
  | with_reducible refine LH.bor ?_
  | with_reducible refine LH.x_if ?_
  | with_reducible refine LH.x_chain ?_
  | with_reducible refine LH.chk ?_
  | with_reducible refine LH.x_callS ?_
  | with_reducible refine LH.x_callE ?_
  | with_reducible refine LH.x_callV ?_
  | with_reducible refine LH.x_lrg ?_
  | with_reducible refine LH.x_lcS ?_
  | with_reducible refine LH.x_lcR1 ?_
  | with_reducible refine LH.x_forR1 ?_
  | with_reducible refine LH.x_forR3 ?_
  | with_reducible refine LH.strv ?_
  | with_reducible refine LH.x_yes ?_
  | with_reducible refine LH.x_sl ?_
  | with_reducible refine LH.x_noPart ?_
  | with_reducible refine LH.x_part ?_
  | with_reducible refine LH.pav ?_
  | with_reducible refine LH.x_jnv ?_
  | with_reducible refine LH.x_join ?_
  | with_reducible refine LH.x_inS ?_
  | with_reducible refine LH.x_niS ?_
  | with_reducible refine LH.x_isB ?_
  | with_reducible refine LH.x_isnB ?_
  | with_reducible refine LH.x_gcons ?_
  | with_reducible refine LH.x_gnil ?_
  | with_reducible refine LH.x_intB ?_
  | with_reducible refine LH.x_orT ?_
  | with_reducible refine LH.x_isTy ?_
  | with_reducible refine LH.x_niTy ?_
  | with_reducible refine LH.x_split ?_
  | with_reducible refine LH.x_spv ?_
  | with_reducible refine LH.x_gsub ?_
  | with_reducible refine LH.x_fmt ?_
  | with_reducible refine LH.x_js0 ?_
  | with_reducible refine LH.x_js ?_
  | with_reducible refine LH.x_rg1 ?_
  | with_reducible refine LH.x_forL ?_
  | with_reducible refine LH.x_abs ?_
  | with_reducible refine LH.x_rg2 ?_
  | with_reducible refine LH.rg1v ?_
  | with_reducible refine LH.rg2v ?_
  | with_reducible refine LH.x_forR2 ?_
  | with_reducible refine LH.x_lenSetG ?_
  | with_reducible refine LH.x_lc ?_
  | with_reducible refine LH.x_fld ?_
  | with_reducible refine LH.x_sfld ?_
  | with_reducible refine LH.x_afld ?_
  | with_reducible refine LH.x_meth ?_
  | with_reducible refine LH.x_make ?_
  | with_reducible refine LH.x_methSl ?_
  | with_reducible refine LH.x_makeSl ?_
  | with_reducible refine LH.x_din ?_
  | with_reducible refine LH.x_dni ?_
  | with_reducible refine LH.x_dget ?_
  | with_reducible refine LH.x_dput ?_
  | with_reducible refine LH.x_dget2 ?_
  | with_reducible refine LH.x_dpop1 ?_
  | with_reducible refine LH.x_litems ?_
  | with_reducible refine LH.x_tru ?_
  | with_reducible refine LH.x_revL ?_
  | with_reducible refine LH.x_dsetT ?_
  | with_reducible refine LH.x_lvals ?_
  | with_reducible refine LH.br_nt ?_
  | with_reducible refine LH.br_nf ?_
  | with_reducible refine LH.br_t ?_
  | with_reducible refine LH.br_f ?_)
local macro_rules | `(tactic| walk_at "rd") => `(tactic| repeat (walk_at "rd1"))
local macro_rules | `(tactic| walk_at "rs1") => `(tactic| first
  | with_reducible refine LH.x_seq ?_
  | with_reducible refine LH.x_cons ?_
  | with_reducible refine LH.x_var (by with_unfolding_all exact rfl) ?_
  | with_reducible refine LH.x_c ?_
  | with_reducible refine LH.x_op ?_
  | with_reducible refine LH.x_gname ?_
  | with_reducible refine LH.x_nil ?_
  | with_reducible refine LH.x_I0 ?_
  | ((with_reducible refine LH.x_I ?k1 ?_); (case k1 => first | exact (by decide) | exact ⟨by decide, by decide⟩ | exact ⟨by decide, by decide, by decide⟩ | exact .inl ⟨by decide, by decide⟩ | exact .inr ⟨by decide, by decide⟩ | exact .inr ⟨by omega, by omega⟩ | exact .inl ⟨by omega, by omega⟩ | exact (by omega)))
  | with_reducible refine LH.x_test ?_
  | with_reducible refine LH.x_tB ?_
  | with_reducible refine LH.bx ?_
  | with_reducible refine LH.x_and ?_
  | with_reducible refine LH.x_or ?_
  | with_reducible refine LH.x_not ?_
  | with_reducible refine LH.x_call ?_
  | with_reducible refine LH.x_cb ?_
  | with_reducible refine LH.x_lst ?_
  | with_reducible refine LH.x_tup ?_
  | with_reducible refine LH.x_bm ?_
  | with_reducible refine LH.x_next ?_
  | with_reducible refine LH.x_cont ?_
  | with_reducible refine LH.x_un ?_
  | with_reducible refine LH.x_U ?_
  | with_reducible refine LH.x_eq (by with_unfolding_all exact rfl) ?_
  | with_reducible refine LH.x_ne (by with_unfolding_all exact rfl) ?_
  | with_reducible refine LH.x_andV ?_
  | with_reducible refine LH.x_orV ?_
  | with_reducible refine LH.x_notV ?_
  | with_reducible refine LH.band ?_
  | with_reducible refine LH.bor ?_
  | with_reducible refine LH.x_if ?_
  | with_reducible refine LH.x_chain ?_
  | with_reducible refine LH.chk ?_
  | with_reducible refine LH.x_callS ?_
  | with_reducible refine LH.x_callE ?_
  | with_reducible refine LH.x_callV ?_
  | with_reducible refine LH.x_lrg ?_
  | with_reducible refine LH.x_lcS ?_
  | with_reducible refine LH.x_lcR1 ?_
  | with_reducible refine LH.strv ?_
  | with_reducible refine LH.x_yes ?_
  | with_reducible refine LH.x_sl ?_
  | with_reducible refine LH.x_noPart ?_
  | with_reducible refine LH.x_part ?_
  | with_reducible refine LH.pav ?_
  | with_reducible refine LH.x_jnv ?_
  | with_reducible refine LH.x_join ?_
  | with_reducible refine LH.x_inS ?_
  | with_reducible refine LH.x_niS ?_
  | with_reducible refine LH.x_isB ?_
  | with_reducible refine LH.x_isnB ?_
  | with_reducible refine LH.x_gcons ?_
  | with_reducible refine LH.x_gnil ?_
  | with_reducible refine LH.x_intB ?_
  | with_reducible refine LH.x_orT ?_
  | with_reducible refine LH.x_isTy ?_
  | with_reducible refine LH.x_niTy ?_
  | with_reducible refine LH.x_split ?_
  | with_reducible refine LH.x_spv ?_
  | with_reducible refine LH.x_gsub ?_
  | with_reducible refine LH.x_fmt ?_
  | with_reducible refine LH.x_js0 ?_
  | with_reducible refine LH.x_js ?_
  | with_reducible refine LH.x_rg1 ?_
  | with_reducible refine LH.x_abs ?_
  | with_reducible refine LH.x_rg2 ?_
  | with_reducible refine LH.rg1v ?_
  | with_reducible refine LH.rg2v ?_
  | with_reducible refine LH.x_lenSetG ?_
  | with_reducible refine LH.x_lc ?_
  | with_reducible refine LH.x_fld ?_
  | with_reducible refine LH.x_sfld ?_
  | with_reducible refine LH.x_afld ?_
  | with_reducible refine LH.x_meth ?_
  | with_reducible refine LH.x_make ?_
  | with_reducible refine LH.x_methSl ?_
  | with_reducible refine LH.x_makeSl ?_
  | with_reducible refine LH.x_din ?_
  | with_reducible refine LH.x_dni ?_
  | with_reducible refine LH.x_dget ?_
  | with_reducible refine LH.x_dput ?_
  | with_reducible refine LH.x_dget2 ?_
  | with_reducible refine LH.x_dpop1 ?_
  | with_reducible refine LH.x_litems ?_
  | with_reducible refine LH.x_tru ?_
  | with_reducible refine LH.x_revL ?_
  | with_reducible refine LH.x_dsetT ?_
  | with_reducible refine LH.x_lvals ?_
  | with_reducible refine LH.br_nt ?_
  | with_reducible refine LH.br_nf ?_
  | with_reducible refine LH.br_t ?_
  | with_reducible refine LH.br_f ?_)
local macro_rules | `(tactic| walk_at "rs") => `(tactic| repeat (walk_at "rs1"))

section
variable {P : Program} {w : World} {K : PySem.W.Frag} {mg : Str → Option Value} {base : Heap} {a : Ad}
theorem paired_in {α : Type} {F : Key × V → α → Prop} {f : α → Int} (hf : ∀ e x, F e x → e.1 = Sum.inl (f x)) {n : Int} : ∀ {kvs : List (Key × V)} {l : List α}, Paired F kvs l → (valV kvs (Sum.inl n)).isSome = decide (n ∈ l.map f)
  | _, _, .nil => rfl
  | _, _, .cons (a := e) (b := x) q r => by
    have ih := paired_in hf (n := n) r
    have e1 := hf _ _ q
    unfold valV at ih ⊢
    simp only [List.map_cons, List.find?_cons, List.mem_cons, e1]
    by_cases c : f x = n
    · simp [c]
    · have h1 : ¬ n = f x := fun q => c q.symm
      have : decide ((Sum.inl (f x) : Key) = Sum.inl n) = false := by simp [c]
      rw [this]
      simp only [h1, false_or]
      exact ih
theorem dat_eqv (w u : Wrd) : PyData.eqv w.dat u.dat = decide (w = u) := by
  cases w with | mk k n r h =>
  cases u with | mk k2 n2 r2 h2 =>
  rw [Bool.eq_iff_iff]
  simp [Wrd.dat, PyData.eqv, PyData.eqvAll]
theorem ok_House__name (T : Txt K mg a) : FnOk P w K mg base CX0 2 a.House__name a.d_House__name ["self", "word"] (spTells a.House HS.name HS.nameT fun st u => u ∈ st.known ∧ st.size ≤ 19990) := by
  have G_place := ok_place (P := P) (w := w) (base := base) T
  refine T.F_House__name.ok sc_House__name (fun vs H Q E h => ?_) (fun cdv A outer s H vs Q E hr h => ?_)
  · obtain ⟨h, st, x, u, M, rfl, _⟩ := h
    rfl
  · obtain ⟨h, st, x, u, M, rfl, S, ⟨b, rfl, hb⟩, fit, ⟨kn, sz⟩, k⟩ := h
    obtain ⟨⟨dx, hp⟩, pkn, pea, pma, pms, pro, pba, pnm, nd, go⟩ := id S.at_
    obtain ⟨n1, n2, n3, n4, n5, n6, n7, n8, n9⟩ := HA.nes nd
    simp only [List.mem_cons, List.not_mem_nil, or_false, not_or] at n1 n2 n3 n4 n5 n6
    have hb' := LH.fr_le _ _ hb
    have bM := (LH.fr_some hb).2
    have sm := S.kl
    obtain ⟨fk, fp, ff⟩ := first_mem kn
    obtain ⟨kve, ge, le, ie⟩ := id pea
    obtain ⟨y, hy, ⟨c, rfl, hc⟩⟩ := (ie u.pl).2 _ ff
    have hc' := LH.fr_le _ _ hc
    obtain ⟨kvn, gn, pn⟩ := id pnm
    have ln := LH.Paired.len pn
    have HR_place : Room 1 _ := hr.mono (by decide)
    refine ⟨_, (pss_cons (ps_set (i := 2) sc_House__name.nd rfl (Or.inl rfl) (pe_ix (r := rIxT K) ix_tup (pv 1) pe_int (fun _ _ => rfl)))
  (pss_cons (ps_set (i := 3) sc_House__name.nd rfl (Or.inl rfl) (pe_dget (hu_of hr) (pe_fld (pv 0) rfl) (pe_call G_place HR_place rfl T.g_place T.F_place.kp T.b_place .nil pass0 (pa_cons (pv 1) pa_nil)) (fun _ _ => rfl)))
  (pss_cons (ps_if (PW.pt (pw_or (pt_cmpR (r := rEqD K) (op_eqD hr.units) (pv 3) (pv 1) (nomark _)) (pw_or1 (pt_cmp (pc_din (hu_of hr) (pv 2) (pe_fld (pv 0) rfl))))))
    (pss_one (ps_ret (pe_lst pa_nil)))
    pss_nil)
  (pss_cons (ps_dput (hu_of hr) (pe_fld (pv 0) rfl) (pv 2) (pe_tup (pa_cons (pv 2) (pa_cons (pv 3) (pa_cons (pv 1) pa_nil)))) rfl)
  (pss_one (ps_ret (pe_lst (pa_cons (pv 3) (pa_cons (pv 1) pa_nil))))))))), ?_⟩
    walk_at "rd"
    refine LH.x_ixT (SqT.of hb') rfl ?_
    walk_at "rd"
    refine LH.fldv hp T.cl_House T.na_House__earliest rfl ?_
    walk_at "rd"
    refine ⟨b, u.k, u.n, u.r, u.h, rfl, SqT.of hb', fun q H1 e1 g1 => ?_⟩
    refine LH.getv (LH.getT (k := u.pl) (e1 _ _ ge) g1) hy ?_
    walk_at "rd"
    have no : st.names u = false → ∀ r (H1 : Hp), H r = none → Same H H1 → H1 r = some (.lst []) → Q (.ref r) H1 := fun e r H1 fr e1 g => by
      refine k H1 [] h r [] ?_ fr (by simp) g ?_
      · have : st.name u = st := by unfold HS.name; rw [if_neg (by rw [e]; exact Bool.false_ne_true)]
        rw [this]
        exact Nxt.refl S.at_ e1
      · have : st.nameT u = [] := by unfold HS.nameT; rw [if_neg (by rw [e]; exact Bool.false_ne_true)]
        rw [this]
        exact .nil
    have wf : WT H (.ref c) (st.first u) := ⟨c, rfl, hc'⟩
    have wu : WT H (.ref b) u := ⟨b, rfl, hb'⟩
    refine LH.x_eqD (wf.up e1).dp (wu.up e1).dp (Wrd.lay (go.wd _ fk).1).shaped (Wrd.lay fit.1).shaped ?_
    rw [dat_eqv]
    walk_at "rd"
    by_cases c1 : st.first u = u
    · rw [decide_eq_true c1]
      walk_at "rd"
      refine LH.newl (LH.small rfl) fun r H2 f2 e2 g2 => ?_
      exact no (by unfold HS.names; rw [decide_eq_true c1]; rfl) r H2 (LH.Same.none e1 f2) (e1.trans e2) g2
    · rw [decide_eq_false c1]
      walk_at "rd"
      refine LH.fldv (e1 _ _ hp) T.cl_House T.na_House__named rfl ?_
      refine LH.inv (LH.getI (e1 _ _ gn)) ?_
      rw [paired_in (f := fun z : Int × Wrd × Wrd => z.1) (fun _ _ q => q.1) pn]
      walk_at "rd"
      by_cases c2 : u.h ∈ st.named.map (·.1)
      · rw [decide_eq_true c2]
        walk_at "rd"
        refine LH.newl (LH.small rfl) fun r H2 f2 e2 g2 => ?_
        exact no (by unfold HS.names; rw [decide_eq_true c2, Bool.not_true, Bool.and_false]) r H2 (LH.Same.none e1 f2) (e1.trans e2) g2
      · rw [decide_eq_false c2]
        walk_at "rd"
        have yes : st.names u = true := by unfold HS.names; rw [decide_eq_false c1, decide_eq_false c2]; rfl
        refine LH.newt (LH.small rfl) fun t H2 f2 e2 g2 => ?_
        walk_at "rd"
        have e12 := e1.trans e2
        have tH : H t = none := LH.Same.none e1 f2
        have tM : t ∉ M := LH.not_in tH S.al
        refine LH.fldv (e12 _ _ hp) T.cl_House T.na_House__named rfl ?_
        walk_at "rd"
        refine LH.putvI (e12 _ _ gn) (by rw [ln]; have := S.nl; omega) fun H3 k3 g3 => ?_
        walk_at "rd"
        refine LH.newl (LH.small rfl) fun r H4 f4 e4 g4 => ?_
        have keep3 : ∀ y o, H y = some o → y ≠ h.nm → H3 y = some o := fun y o q q1 => k3 _ _ (e12 _ _ q) q1
        have keep : ∀ y o, H y = some o → y ≠ h.nm → H4 y = some o := fun y o q q1 => e4 _ _ (keep3 y o q q1)
        have ks : LH.Ks h.S H H4 := fun y o q n => keep y o q (fun e => n (e ▸ inS8 _ (by simp)))
        have fM : Same (LH.Fr M H) (LH.Fr ([] ++ M) H4) := (ks.sub S.sub).fr
        have rH : H r = none := by
          cases q : H r with
          | none => rfl
          | some o =>
            exfalso
            by_cases c3 : r = h.nm
            · rw [c3, g3] at f4
              cases f4
            · rw [keep3 _ _ q c3] at f4
              cases f4
        have tnm : t ≠ h.nm := fun q => tM (q ▸ S.sub _ (inS8 _ (by simp)))
        have g2' : H4 t = some (.tup [.int u.h, .ref c, .ref b]) := e4 _ _ (k3 _ _ g2 tnm)
        have wf4 : WT (LH.Fr ([] ++ M) H4) (.ref c) (st.first u) := ⟨c, rfl, fM _ _ hc⟩
        have wu4 : WT (LH.Fr ([] ++ M) H4) (.ref b) u := ⟨b, rfl, fM _ _ hb⟩
        have ew : st.name u = { st with named := st.named ++ [(u.h, st.first u, u)] } := by unfold HS.name; rw [if_pos yes]
        have et : st.nameT u = [st.first u, u] := by unfold HS.nameT; rw [if_pos yes]
        have gow : Good (st.name u) := go.name kn
        refine k H4 [] h r _ ⟨ks, (fun _ m => by cases m), (fun _ m => by cases m), rfl, fun y q => .inl q, fun y q => q, ?_⟩ rH (by simp) g4 (by rw [et]; exact .cons wf4 (.cons wu4 .nil))
        rw [ew] at gow ⊢
        refine ⟨⟨dx, keep _ _ hp n1.2.2.2.2.2.2⟩, pkn.to fun o q => keep _ o q n2.2.2.2.2.2, pea.to fM fun o q => keep _ o q n3.2.2.2.2, pma.to fun o q => keep _ o q n4.2.2.2, pms.to fM fun y o hy q => ?_, pro.to fun o q => keep _ o q n6.2, pba.to fM fun o q => keep _ o q n7, ?_, nd, gow⟩
        · rcases hy with rfl | hy
          · exact keep _ _ q n5.2.2
          · have := n8 _ hy
            simp only [List.mem_cons, List.not_mem_nil, or_false, not_or] at this
            exact keep _ _ q this.2.2.2.2.2.2.2
        · have nob : valV kvn (Sum.inl u.h) = none := by
            have := paired_in (f := fun z : Int × Wrd × Wrd => z.1) (fun _ _ q => q.1) (n := u.h) pn
            rw [decide_eq_false c2] at this
            cases q : valV kvn (Sum.inl u.h) with
            | none => rfl
            | some z => rw [q] at this; cases this
          refine ⟨_, e4 _ _ g3, ?_⟩
          rw [putK_new _ nob]
          exact LH.Paired.snoc (LH.Paired.imp (fun _ _ q => ⟨q.1, q.2.up fM⟩) pn) ⟨rfl, t, _, _, rfl, LH.fr_of g2' (by simpa using tM), wf4, wu4⟩
end
end K6
namespace K6
open PySem L2 LM HM
local macro_rules | `(tactic| walk_at "rd1") => `(tactic| first
  | with_reducible refine LH.x_seq ?_
  | with_reducible refine LH.x_asg ?_
  | with_reducible refine LH.x_cons ?_
  | with_reducible refine LH.x_var (by with_unfolding_all exact rfl) ?_
  | with_reducible refine LH.x_c ?_
  | with_reducible refine LH.x_op ?_
  | with_reducible refine LH.x_gname ?_
  | with_reducible refine LH.x_nil ?_
  | with_reducible refine LH.x_I0 ?_
  | ((with_reducible refine LH.x_I ?k1 ?_); (case k1 => first | exact (by decide) | exact ⟨by decide, by decide⟩ | exact ⟨by decide, by decide, by decide⟩ | exact .inl ⟨by decide, by decide⟩ | exact .inr ⟨by decide, by decide⟩ | exact .inr ⟨by omega, by omega⟩ | exact .inl ⟨by omega, by omega⟩ | exact (by omega)))
  | with_reducible refine LH.x_ifS ?_
  | with_reducible refine LH.x_test ?_
  | with_reducible refine LH.x_tB ?_
  | with_reducible refine LH.bx ?_
  | with_reducible refine LH.x_and ?_
  | with_reducible refine LH.x_or ?_
  | with_reducible refine LH.x_not ?_
  | with_reducible refine LH.x_ret ?_
  | with_reducible refine LH.x_call ?_
  | with_reducible refine LH.x_cb ?_
  | with_reducible refine LH.x_lst ?_
  | with_reducible refine LH.x_tup ?_
  | with_reducible refine LH.x_bm ?_
  | with_reducible refine LH.x_drop ?_
  | with_reducible refine LH.x_next ?_
  | with_reducible refine LH.x_cont ?_
  | with_reducible refine LH.x_un ?_
  | with_reducible refine LH.x_U ?_
  | with_reducible refine LH.x_eq (by with_unfolding_all exact rfl) ?_
  | with_reducible refine LH.x_ne (by with_unfolding_all exact rfl) ?_
  | with_reducible refine LH.x_andV ?_
  | with_reducible refine LH.x_orV ?_
  | with_reducible refine LH.x_notV ?_
  | with_reducible refine LH.band ?_
  | with_reducible refine LH.bor ?_
  | with_reducible refine LH.x_if ?_
  | with_reducible refine LH.x_chain ?_
  | with_reducible refine LH.chk ?_
  | with_reducible refine LH.x_callS ?_
  | with_reducible refine LH.x_callE ?_
  | with_reducible refine LH.x_callV ?_
  | with_reducible refine LH.x_lrg ?_
  | with_reducible refine LH.x_lcS ?_
  | with_reducible refine LH.x_lcR1 ?_
  | with_reducible refine LH.x_forR1 ?_
  | with_reducible refine LH.x_forR3 ?_
  | with_reducible refine LH.strv ?_
  | with_reducible refine LH.x_yes ?_
  | with_reducible refine LH.x_sl ?_
  | with_reducible refine LH.x_noPart ?_
  | with_reducible refine LH.x_part ?_
  | with_reducible refine LH.pav ?_
  | with_reducible refine LH.x_jnv ?_
  | with_reducible refine LH.x_join ?_
  | with_reducible refine LH.x_inS ?_
  | with_reducible refine LH.x_niS ?_
  | with_reducible refine LH.x_isB ?_
  | with_reducible refine LH.x_isnB ?_
  | with_reducible refine LH.x_gcons ?_
  | with_reducible refine LH.x_gnil ?_
  | with_reducible refine LH.x_intB ?_
  | with_reducible refine LH.x_orT ?_
  | with_reducible refine LH.x_isTy ?_
  | with_reducible refine LH.x_niTy ?_
  | with_reducible refine LH.x_split ?_
  | with_reducible refine LH.x_spv ?_
  | with_reducible refine LH.x_gsub ?_
  | with_reducible refine LH.x_fmt ?_
  | with_reducible refine LH.x_js0 ?_
  | with_reducible refine LH.x_js ?_
  | with_reducible refine LH.x_rg1 ?_
  | with_reducible refine LH.x_forL ?_
  | with_reducible refine LH.x_abs ?_
  | with_reducible refine LH.x_rg2 ?_
  | with_reducible refine LH.rg1v ?_
  | with_reducible refine LH.rg2v ?_
  | with_reducible refine LH.x_forR2 ?_
  | with_reducible refine LH.x_lenSetG ?_
  | with_reducible refine LH.x_lc ?_
  | with_reducible refine LH.x_fld ?_
  | with_reducible refine LH.x_sfld ?_
  | with_reducible refine LH.x_afld ?_
  | with_reducible refine LH.x_meth ?_
  | with_reducible refine LH.x_make ?_
  | with_reducible refine LH.x_methSl ?_
  | with_reducible refine LH.x_makeSl ?_
  | with_reducible refine LH.x_din ?_
  | with_reducible refine LH.x_dni ?_
  | with_reducible refine LH.x_dget ?_
  | with_reducible refine LH.x_dput ?_
  | with_reducible refine LH.x_dget2 ?_
  | with_reducible refine LH.x_dpop1 ?_
  | with_reducible refine LH.x_litems ?_
  | with_reducible refine LH.x_tru ?_
  | with_reducible refine LH.x_revL ?_
  | with_reducible refine LH.x_dsetT ?_
  | with_reducible refine LH.x_lvals ?_
  | with_reducible refine LH.br_nt ?_
  | with_reducible refine LH.br_nf ?_
  | with_reducible refine LH.br_t ?_
  | with_reducible refine LH.br_f ?_)
local macro_rules | `(tactic| walk_at "rd") => `(tactic| repeat (walk_at "rd1"))
local macro_rules | `(tactic| walk_at "rs1") => `(tactic| first
  | with_reducible refine LH.x_seq ?_
  | with_reducible refine LH.x_cons ?_
  | with_reducible refine LH.x_var (by with_unfolding_all exact rfl) ?_
  | with_reducible refine LH.x_c ?_
  | with_reducible refine LH.x_op ?_
  | with_reducible refine LH.x_gname ?_
  | with_reducible refine LH.x_nil ?_
  | with_reducible refine LH.x_I0 ?_
  | ((with_reducible refine LH.x_I ?k1 ?_); (case k1 => first | exact (by decide) | exact ⟨by decide, by decide⟩ | exact ⟨by decide, by decide, by decide⟩ | exact .inl ⟨by decide, by decide⟩ | exact .inr ⟨by decide, by decide⟩ | exact .inr ⟨by omega, by omega⟩ | exact .inl ⟨by omega, by omega⟩ | exact (by omega)))
  | with_reducible refine LH.x_test ?_
  | with_reducible refine LH.x_tB ?_
  | with_reducible refine LH.bx ?_
  | with_reducible refine LH.x_and ?_
  | with_reducible refine LH.x_or ?_
  | with_reducible refine LH.x_not ?_
  | with_reducible refine LH.x_call ?_
  | with_reducible refine LH.x_cb ?_
  | with_reducible refine LH.x_lst ?_
  | with_reducible refine LH.x_tup ?_
  | with_reducible refine LH.x_bm ?_
  | with_reducible refine LH.x_next ?_
  | with_reducible refine LH.x_cont ?_
  | with_reducible refine LH.x_un ?_
  | with_reducible refine LH.x_U ?_
  | with_reducible refine LH.x_eq (by with_unfolding_all exact rfl) ?_
  | with_reducible refine LH.x_ne (by with_unfolding_all exact rfl) ?_
  | with_reducible refine LH.x_andV ?_
  | with_reducible refine LH.x_orV ?_
  | with_reducible refine LH.x_notV ?_
  | with_reducible refine LH.band ?_
  | with_reducible refine LH.bor ?_
  | with_reducible refine LH.x_if ?_
  | with_reducible refine LH.x_chain ?_
  | with_reducible refine LH.chk ?_
  | with_reducible refine LH.x_callS ?_
  | with_reducible refine LH.x_callE ?_
  | with_reducible refine LH.x_callV ?_
  | with_reducible refine LH.x_lrg ?_
  | with_reducible refine LH.x_lcS ?_
  | with_reducible refine LH.x_lcR1 ?_
  | with_reducible refine LH.strv ?_
  | with_reducible refine LH.x_yes ?_
  | with_reducible refine LH.x_sl ?_
  | with_reducible refine LH.x_noPart ?_
  | with_reducible refine LH.x_part ?_
  | with_reducible refine LH.pav ?_
  | with_reducible refine LH.x_jnv ?_
  | with_reducible refine LH.x_join ?_
  | with_reducible refine LH.x_inS ?_
  | with_reducible refine LH.x_niS ?_
  | with_reducible refine LH.x_isB ?_
  | with_reducible refine LH.x_isnB ?_
  | with_reducible refine LH.x_gcons ?_
  | with_reducible refine LH.x_gnil ?_
  | with_reducible refine LH.x_intB ?_
  | with_reducible refine LH.x_orT ?_
  | with_reducible refine LH.x_isTy ?_
  | with_reducible refine LH.x_niTy ?_
  | with_reducible refine LH.x_split ?_
  | with_reducible refine LH.x_spv ?_
  | with_reducible refine LH.x_gsub ?_
  | with_reducible refine LH.x_fmt ?_
  | with_reducible refine LH.x_js0 ?_
  | with_reducible refine LH.x_js ?_
  | with_reducible refine LH.x_rg1 ?_
  | with_reducible refine LH.x_abs ?_
  | with_reducible refine LH.x_rg2 ?_
  | with_reducible refine LH.rg1v ?_
  | with_reducible refine LH.rg2v ?_
  | with_reducible refine LH.x_lenSetG ?_
  | with_reducible refine LH.x_lc ?_
  | with_reducible refine LH.x_fld ?_
  | with_reducible refine LH.x_sfld ?_
  | with_reducible refine LH.x_afld ?_
  | with_reducible refine LH.x_meth ?_
  | with_reducible refine LH.x_make ?_
  | with_reducible refine LH.x_methSl ?_
  | with_reducible refine LH.x_makeSl ?_
  | with_reducible refine LH.x_din ?_
  | with_reducible refine LH.x_dni ?_
  | with_reducible refine LH.x_dget ?_
  | with_reducible refine LH.x_dput ?_
  | with_reducible refine LH.x_dget2 ?_
  | with_reducible refine LH.x_dpop1 ?_
  | with_reducible refine LH.x_litems ?_
  | with_reducible refine LH.x_tru ?_
  | with_reducible refine LH.x_revL ?_
  | with_reducible refine LH.x_dsetT ?_
  | with_reducible refine LH.x_lvals ?_
  | with_reducible refine LH.br_nt ?_
  | with_reducible refine LH.br_nf ?_
  | with_reducible refine LH.br_t ?_
  | with_reducible refine LH.br_f ?_)
local macro_rules | `(tactic| walk_at "rs") => `(tactic| repeat (walk_at "rs1"))

section
variable {P : Program} {w : World} {K : PySem.W.Frag} {mg : Str → Option Value} {base : Heap} {a : Ad}
theorem Std.fresh {C : Addr} {M N : List Addr} {H H' : Hp} {h h' : HA} {st st' : HS} {r : Addr} (S : Std C M H h st) (n : Nxt C M H h st' H' N h') (f : H' r = none) : H r = none ∧ r ∉ N := by
  refine ⟨?_, fun m => ?_⟩
  · cases q : H r with
    | none => rfl
    | some o =>
      by_cases c : r ∈ h.S
      · obtain ⟨o2, q2⟩ := n.at_.alive r (n.sup r c)
        rw [f] at q2
        cases q2
      · rw [n.ks _ _ q c] at f
        cases f
  · obtain ⟨o, q⟩ := n.al r m
    rw [f] at q
    cases q
theorem Std.out {C : Addr} {M N : List Addr} {H H' : Hp} {h h' : HA} {st st' : HS} {r : Addr} (S : Std C M H h st) (n : Nxt C M H h st' H' N h') (f : H r = none) (o : r ∉ N) : r ∉ h'.S := fun m => by
  rcases n.sub r m with m | m
  · obtain ⟨u, q⟩ := S.at_.alive r m
    rw [f] at q
    cases q
  · exact o m
theorem Std.self {C : Addr} {M : List Addr} {H : Hp} {h h0 : HA} {st : HS} (S : Std C M H h st) (e : h.p = h0.p) : ∃ dx, H h0.p = some (.ins C dx (hf h st.c st.own st.due)) := e ▸ S.at_.ob
theorem fit_mark {st : HS} {u : Wrd} (f : Fit st u) : Fit (st.mark u) u := by
  unfold HS.mark
  split <;> exact f
theorem fit_write {st : HS} {u : Wrd} (f : Fit st u) : Fit (st.write u) u := by
  unfold HS.write
  split <;> exact f
/-- hearing: a list of words of its own -/
def spHears (C : Addr) : Sp := fun vs H Q _ => ∃ h st x u M, vs = [.ref (h : HA).p, x] ∧ Std C M H h st ∧ WT (LH.Fr M H) x u ∧ Fit st u ∧ st.size ≤ 19980 ∧
  ∀ H' N h' r xs, Nxt C M H h (st.hear u) H' N h' → H r = none → r ∉ N → H' r = some (.lst xs) → TW (LH.Fr (N ++ M) H') xs (st.hearT u) → HouseAt C (LH.Fr (r :: (N ++ M)) H') H' h' (st.hear u) → Q (.ref r) H'
theorem ok_House_hear (T : Txt K mg a) : FnOk P w K mg base CX0 6 a.House_hear a.d_House_hear ["self", "word"] (spHears a.House) := by
  have G_House__learn := ok_House__learn (P := P) (w := w) (base := base) T
  have G_House__mark := ok_House__mark (P := P) (w := w) (base := base) T
  have G_House__write := ok_House__write (P := P) (w := w) (base := base) T
  have G_House__name := ok_House__name (P := P) (w := w) (base := base) T
  refine T.F_House_hear.ok sc_House_hear (fun vs H Q E h => ?_) (fun cdv A outer s H vs Q E hr h => ?_)
  · obtain ⟨h, st, x, u, M, rfl, _⟩ := h
    rfl
  · obtain ⟨h, st, x, u, M, rfl, S, ⟨b, rfl, hb⟩, fit, sz, k⟩ := h
    obtain ⟨dx, hp⟩ := S.at_.ob
    have hb' := LH.fr_le _ _ hb
    obtain ⟨kvs, gk, lk, ik⟩ := S.at_.kn
    have HR_House__learn : Room 2 _ := hr.mono (by decide)
    have HR_House__mark : Room 3 _ := hr.mono (by decide)
    have HR_House__write : Room 5 _ := hr.mono (by decide)
    have HR_House__name : Room 2 _ := hr.mono (by decide)
    refine ⟨_, (pss_cons (ps_if (pt_cmp (pc_din (hu_of hr) (pv 1) (pe_fld (pv 0) rfl)))
    (pss_one (ps_ret (pe_lst pa_nil)))
    pss_nil)
  (pss_cons (ps_expr (pe_meth (pv 0) T.cl_House T.me_House__learn G_House__learn HR_House__learn T.b_House__learn .nil pass0 (pa_cons (pv 1) pa_nil)))
  (pss_cons (ps_set (i := 2) sc_House_hear.nd rfl (Or.inl rfl) (pe_meth (pv 0) T.cl_House T.me_House__mark G_House__mark HR_House__mark T.b_House__mark .nil pass0 (pa_cons (pv 1) pa_nil)))
  (pss_cons (ps_set (i := 3) sc_House_hear.nd rfl (Or.inl rfl) (pe_meth (pv 0) T.cl_House T.me_House__write G_House__write HR_House__write T.b_House__write .nil pass0 (pa_cons (pv 1) pa_nil)))
  (pss_cons (ps_set (i := 4) sc_House_hear.nd rfl (Or.inl rfl) (pe_meth (pv 0) T.cl_House T.me_House__name G_House__name HR_House__name T.b_House__name .nil pass0 (pa_cons (pv 1) pa_nil)))
  (pss_one (ps_ret (pe_op (r := LH.rCatS K) LH.op_catS (pe_op (r := LH.rCatS K) LH.op_catS (pv 2) (pv 3)) (pv 4))))))))), ?_⟩
    walk_at "rd"
    refine LH.fldv hp T.cl_House T.na_House__known rfl ?_
    refine LH.inv (LH.getT (k := ky u) gk hb') ?_
    have ein : (valV kvs (ky u)).isSome = decide (u ∈ st.known) := by
      by_cases c : u ∈ st.known
      · rw [decide_eq_true c]
        exact (ik _).mpr ⟨u, c, rfl⟩
      · rw [decide_eq_false c]
        cases q : (valV kvs (ky u)).isSome with
        | false => rfl
        | true =>
          obtain ⟨z, hz, e⟩ := (ik _).mp q
          exact absurd (ky_inj e ▸ hz) c
    rw [ein]
    walk_at "rd"
    by_cases c : u ∈ st.known
    · rw [decide_eq_true c]
      walk_at "rd"
      refine LH.newl (LH.small rfl) fun r H1 f1 e1 g1 => ?_
      have e2 : st.hear u = st := by unfold HS.hear; rw [if_pos c]
      have e3 : st.hearT u = [] := by unfold HS.hearT; rw [if_pos c]
      exact k H1 [] h r [] (by rw [e2]; exact Nxt.refl S.at_ e1) f1 (by simp) g1 (by rw [e3]; exact .nil) (by rw [e2]; exact S.at_.to (LH.fr_new f1 e1) fun b o _ q => e1 _ _ q)
    · rw [decide_eq_false c]
      walk_at "rd"
      refine LH.methv hp rfl ?_
      walk_at "rd"
      refine ⟨h, st, .ref b, u, M, rfl, S, ⟨b, rfl, hb⟩, fit, fun H1 N1 h1 n1 => ?_⟩
      walk_at "rd"
      have z1 := size_learn (st := st) (w := u)
      have S1 := S.next n1 (by omega)
      have fit1 : Fit (st.learn u) u := fit
      have f1 := n1.fr S.sub
      obtain ⟨dx1, hp1⟩ := S1.self n1.p
      refine LH.methv hp1 rfl ?_
      walk_at "rd"
      refine ⟨h1, st.learn u, .ref b, u, _, by rw [n1.p]; rfl, S1, ⟨b, rfl, f1 _ _ hb⟩, fit1, by omega, fun H2 N2 h2 r2 xs2 n2 fr2 rn2 g2 t2 => ?_⟩
      walk_at "rd"
      have z2 := size_mark (st := st.learn u) (w := u)
      have S2 := S1.next n2 (by omega)
      have fit2 : Fit ((st.learn u).mark u) u := fit_mark fit1
      have f2 := f1.trans (n2.fr S1.sub)
      have p2 : h2.p = h.p := n2.p.trans n1.p
      obtain ⟨dx2, hp2⟩ := S2.self p2
      refine LH.methv hp2 rfl ?_
      walk_at "rd"
      refine ⟨h2, (st.learn u).mark u, .ref b, u, _, by rw [p2]; rfl, S2, ⟨b, rfl, f2 _ _ hb⟩, fit2, by omega, fun H3 N3 h3 r3 xs3 n3 fr3 rn3 g3 t3 => ?_⟩
      walk_at "rd"
      have z3 := size_write (st := (st.learn u).mark u) (w := u)
      have S3 := S2.next n3 (by omega)
      have fit3 : Fit (((st.learn u).mark u).write u) u := fit_write fit2
      have f23 := n3.fr S2.sub
      have p3 : h3.p = h.p := n3.p.trans p2
      obtain ⟨dx3, hp3⟩ := S3.self p3
      refine LH.methv hp3 rfl ?_
      walk_at "rd"
      refine ⟨h3, ((st.learn u).mark u).write u, .ref b, u, _, by rw [p3]; rfl, S3, ⟨b, rfl, (f2.trans f23) _ _ hb⟩, fit3, ⟨by rw [write_known]; exact mark_known (mem_learn.mpr (.inr rfl)), by omega⟩, fun H4 N4 h4 r4 xs4 n4 fr4 rn4 g4 t4 => ?_⟩
      walk_at "rd"
      have f34 := n4.fr S3.sub
      have o2 := S1.out n2 fr2 rn2
      have g2' : H3 r2 = some (.lst xs2) := n3.ks _ _ g2 o2
      have o2' : r2 ∉ h3.S := fun m => by
        rcases n3.sub r2 m with m | m
        · exact o2 m
        · rw [n3.nw r2 m] at g2
          cases g2
      have g2'' : H4 r2 = some (.lst xs2) := n4.ks _ _ g2' o2'
      have g3' : H4 r3 = some (.lst xs3) := n4.ks _ _ g3 (S2.out n3 fr3 rn3)
      have l2 : xs2.length ≤ 1 := by
        rw [LH.Paired.len t2]
        unfold HS.markT
        split <;> simp
      have l3 : xs3.length ≤ 12 := by
        rw [LH.Paired.len t3]
        unfold HS.backT
        split
        · refine Nat.le_trans (?_ : _ ≤ ((List.range st.c.toNat).length)) (by rw [List.length_range]; have := S.at_.go.c2; omega)
          have e : ((st.learn u).mark u).c = st.c := by unfold HS.mark; split <;> rfl
          rw [e]
          exact List.length_filterMap_le _ _
        · simp
      have l4 : xs4.length ≤ 2 := by
        rw [LH.Paired.len t4]
        unfold HS.nameT
        split <;> simp
      refine LH.x_catS (.of g2'') (.of g3') (by omega) fun r5 H5 f5 e5 g5 => ?_
      walk_at "rd"
      refine LH.x_catS (.of g5) (.of (e5 _ _ g4)) (by rw [List.length_append]; omega) fun r6 H6 f6 e6 g6 => ?_
      have n := Nxt.comp S.sub n1 (Nxt.comp S1.sub n2 (Nxt.comp S2.sub n3 n4 S2.al) S1.al) S.al
      have n' := n.same (e5.trans e6)
      have eh : st.hear u = (((st.learn u).mark u).write u).name u := by unfold HS.hear; rw [if_neg c]
      have et : st.hearT u = (st.learn u).markT u ++ ((st.learn u).mark u).backT u ++ (((st.learn u).mark u).write u).nameT u := by unfold HS.hearT; rw [if_neg c]
      obtain ⟨q1, q2⟩ := S.fresh n (LH.Same.none e5 f6)
      refine k H6 _ h4 r6 _ (by rw [eh]; exact n') q1 q2 g6 ?_ (by rw [eh]; exact n.at_.to (LH.fr_new (LH.Same.none e5 f6) (e5.trans e6)) fun b o _ q => (e5.trans e6) _ _ q)
      rw [et]
      have e56 : Same (LH.Fr (N4 ++ (N3 ++ (N2 ++ (N1 ++ M)))) H4) (LH.Fr (N4 ++ N3 ++ N2 ++ N1 ++ M) H6) := by
        simp only [List.append_assoc]
        exact LH.same_fr (e5.trans e6)
      exact ((t2.up ((f23.trans f34).trans e56)).app (t3.up (f34.trans e56))).app (t4.up e56)
end
end K6
namespace K6
open PySem L2 LM HM
local macro_rules | `(tactic| walk_at "rd1") => `(tactic| first
  | with_reducible refine LH.x_seq ?_
  | with_reducible refine LH.x_asg ?_
  | with_reducible refine LH.x_cons ?_
  | with_reducible refine LH.x_var (by with_unfolding_all exact rfl) ?_
  | with_reducible refine LH.x_c ?_
  | with_reducible refine LH.x_op ?_
  | with_reducible refine LH.x_gname ?_
  | with_reducible refine LH.x_nil ?_
  | with_reducible refine LH.x_I0 ?_
  | ((with_reducible refine LH.x_I ?k1 ?_); (case k1 => first | exact (by decide) | exact ⟨by decide, by decide⟩ | exact ⟨by decide, by decide, by decide⟩ | exact .inl ⟨by decide, by decide⟩ | exact .inr ⟨by decide, by decide⟩ | exact .inr ⟨by omega, by omega⟩ | exact .inl ⟨by omega, by omega⟩ | exact (by omega)))
  | with_reducible refine LH.x_ifS ?_
  | with_reducible refine LH.x_test ?_
  | with_reducible refine LH.x_tB ?_
  | with_reducible refine LH.bx ?_
  | with_reducible refine LH.x_and ?_
  | with_reducible refine LH.x_or ?_
  | with_reducible refine LH.x_not ?_
  | with_reducible refine LH.x_ret ?_
  | with_reducible refine LH.x_call ?_
  | with_reducible refine LH.x_cb ?_
  | with_reducible refine LH.x_lst ?_
  | with_reducible refine LH.x_tup ?_
  | with_reducible refine LH.x_bm ?_
  | with_reducible refine LH.x_drop ?_
  | with_reducible refine LH.x_next ?_
  | with_reducible refine LH.x_cont ?_
  | with_reducible refine LH.x_un ?_
  | with_reducible refine LH.x_U ?_
  | with_reducible refine LH.x_eq (by with_unfolding_all exact rfl) ?_
  | with_reducible refine LH.x_ne (by with_unfolding_all exact rfl) ?_
  | with_reducible refine LH.x_andV ?_
  | with_reducible refine LH.x_orV ?_
  | with_reducible refine LH.x_notV ?_
  | with_reducible refine LH.band ?_
  | with_reducible refine LH.bor ?_
  | with_reducible refine LH.x_if ?_
  | with_reducible refine LH.x_chain ?_
  | with_reducible refine LH.chk ?_
  | with_reducible refine LH.x_callS ?_
  | with_reducible refine LH.x_callE ?_
  | with_reducible refine LH.x_callV ?_
  | with_reducible refine LH.x_lrg ?_
  | with_reducible refine LH.x_lcS ?_
  | with_reducible refine LH.x_lcR1 ?_
  | with_reducible refine LH.x_forR1 ?_
  | with_reducible refine LH.x_forR3 ?_
  | with_reducible refine LH.strv ?_
  | with_reducible refine LH.x_yes ?_
  | with_reducible refine LH.x_sl ?_
  | with_reducible refine LH.x_noPart ?_
  | with_reducible refine LH.x_part ?_
  | with_reducible refine LH.pav ?_
  | with_reducible refine LH.x_jnv ?_
  | with_reducible refine LH.x_join ?_
  | with_reducible refine LH.x_inS ?_
  | with_reducible refine LH.x_niS ?_
  | with_reducible refine LH.x_isB ?_
  | with_reducible refine LH.x_isnB ?_
  | with_reducible refine LH.x_gcons ?_
  | with_reducible refine LH.x_gnil ?_
  | with_reducible refine LH.x_intB ?_
  | with_reducible refine LH.x_orT ?_
  | with_reducible refine LH.x_isTy ?_
  | with_reducible refine LH.x_niTy ?_
  | with_reducible refine LH.x_split ?_
  | with_reducible refine LH.x_spv ?_
  | with_reducible refine LH.x_gsub ?_
  | with_reducible refine LH.x_fmt ?_
  | with_reducible refine LH.x_js0 ?_
  | with_reducible refine LH.x_js ?_
  | with_reducible refine LH.x_rg1 ?_
  | with_reducible refine LH.x_forL ?_
  | with_reducible refine LH.x_abs ?_
  | with_reducible refine LH.x_rg2 ?_
  | with_reducible refine LH.rg1v ?_
  | with_reducible refine LH.rg2v ?_
  | with_reducible refine LH.x_forR2 ?_
  | with_reducible refine LH.x_lenSetG ?_
  | with_reducible refine LH.x_lc ?_
  | with_reducible refine LH.x_fld ?_
  | with_reducible refine LH.x_sfld ?_
  | with_reducible refine LH.x_afld ?_
  | with_reducible refine LH.x_meth ?_
  | with_reducible refine LH.x_make ?_
  | with_reducible refine LH.x_methSl ?_
  | with_reducible refine LH.x_makeSl ?_
  | with_reducible refine LH.x_din ?_
  | with_reducible refine LH.x_dni ?_
  | with_reducible refine LH.x_dget ?_
  | with_reducible refine LH.x_dput ?_
  | with_reducible refine LH.x_dget2 ?_
  | with_reducible refine LH.x_dpop1 ?_
  | with_reducible refine LH.x_litems ?_
  | with_reducible refine LH.x_tru ?_
  | with_reducible refine LH.x_revL ?_
  | with_reducible refine LH.x_dsetT ?_
  | with_reducible refine LH.x_lvals ?_
  | with_reducible refine LH.br_nt ?_
  | with_reducible refine LH.br_nf ?_
  | with_reducible refine LH.br_t ?_
  | with_reducible refine LH.br_f ?_)
local macro_rules | `(tactic| walk_at "rd") => `(tactic| repeat (walk_at "rd1"))
local macro_rules | `(tactic| walk_at "rs1") => `(tactic| first
  | with_reducible refine LH.x_seq ?_
  | with_reducible refine LH.x_cons ?_
  | with_reducible refine LH.x_var (by with_unfolding_all exact rfl) ?_
  | with_reducible refine LH.x_c ?_
  | with_reducible refine LH.x_op ?_
  | with_reducible refine LH.x_gname ?_
  | with_reducible refine LH.x_nil ?_
  | with_reducible refine LH.x_I0 ?_
  | ((with_reducible refine LH.x_I ?k1 ?_); (case k1 => first | exact (by decide) | exact ⟨by decide, by decide⟩ | exact ⟨by decide, by decide, by decide⟩ | exact .inl ⟨by decide, by decide⟩ | exact .inr ⟨by decide, by decide⟩ | exact .inr ⟨by omega, by omega⟩ | exact .inl ⟨by omega, by omega⟩ | exact (by omega)))
  | with_reducible refine LH.x_test ?_
  | with_reducible refine LH.x_tB ?_
  | with_reducible refine LH.bx ?_
  | with_reducible refine LH.x_and ?_
  | with_reducible refine LH.x_or ?_
  | with_reducible refine LH.x_not ?_
  | with_reducible refine LH.x_call ?_
  | with_reducible refine LH.x_cb ?_
  | with_reducible refine LH.x_lst ?_
  | with_reducible refine LH.x_tup ?_
  | with_reducible refine LH.x_bm ?_
  | with_reducible refine LH.x_next ?_
  | with_reducible refine LH.x_cont ?_
  | with_reducible refine LH.x_un ?_
  | with_reducible refine LH.x_U ?_
  | with_reducible refine LH.x_eq (by with_unfolding_all exact rfl) ?_
  | with_reducible refine LH.x_ne (by with_unfolding_all exact rfl) ?_
  | with_reducible refine LH.x_andV ?_
  | with_reducible refine LH.x_orV ?_
  | with_reducible refine LH.x_notV ?_
  | with_reducible refine LH.band ?_
  | with_reducible refine LH.bor ?_
  | with_reducible refine LH.x_if ?_
  | with_reducible refine LH.x_chain ?_
  | with_reducible refine LH.chk ?_
  | with_reducible refine LH.x_callS ?_
  | with_reducible refine LH.x_callE ?_
  | with_reducible refine LH.x_callV ?_
  | with_reducible refine LH.x_lrg ?_
  | with_reducible refine LH.x_lcS ?_
  | with_reducible refine LH.x_lcR1 ?_
  | with_reducible refine LH.strv ?_
  | with_reducible refine LH.x_yes ?_
  | with_reducible refine LH.x_sl ?_
  | with_reducible refine LH.x_noPart ?_
  | with_reducible refine LH.x_part ?_
  | with_reducible refine LH.pav ?_
  | with_reducible refine LH.x_jnv ?_
  | with_reducible refine LH.x_join ?_
  | with_reducible refine LH.x_inS ?_
  | with_reducible refine LH.x_niS ?_
  | with_reducible refine LH.x_isB ?_
  | with_reducible refine LH.x_isnB ?_
  | with_reducible refine LH.x_gcons ?_
  | with_reducible refine LH.x_gnil ?_
  | with_reducible refine LH.x_intB ?_
  | with_reducible refine LH.x_orT ?_
  | with_reducible refine LH.x_isTy ?_
  | with_reducible refine LH.x_niTy ?_
  | with_reducible refine LH.x_split ?_
  | with_reducible refine LH.x_spv ?_
  | with_reducible refine LH.x_gsub ?_
  | with_reducible refine LH.x_fmt ?_
  | with_reducible refine LH.x_js0 ?_
  | with_reducible refine LH.x_js ?_
  | with_reducible refine LH.x_rg1 ?_
  | with_reducible refine LH.x_abs ?_
  | with_reducible refine LH.x_rg2 ?_
  | with_reducible refine LH.rg1v ?_
  | with_reducible refine LH.rg2v ?_
  | with_reducible refine LH.x_lenSetG ?_
  | with_reducible refine LH.x_lc ?_
  | with_reducible refine LH.x_fld ?_
  | with_reducible refine LH.x_sfld ?_
  | with_reducible refine LH.x_afld ?_
  | with_reducible refine LH.x_meth ?_
  | with_reducible refine LH.x_make ?_
  | with_reducible refine LH.x_methSl ?_
  | with_reducible refine LH.x_makeSl ?_
  | with_reducible refine LH.x_din ?_
  | with_reducible refine LH.x_dni ?_
  | with_reducible refine LH.x_dget ?_
  | with_reducible refine LH.x_dput ?_
  | with_reducible refine LH.x_dget2 ?_
  | with_reducible refine LH.x_dpop1 ?_
  | with_reducible refine LH.x_litems ?_
  | with_reducible refine LH.x_tru ?_
  | with_reducible refine LH.x_revL ?_
  | with_reducible refine LH.x_dsetT ?_
  | with_reducible refine LH.x_lvals ?_
  | with_reducible refine LH.br_nt ?_
  | with_reducible refine LH.br_nf ?_
  | with_reducible refine LH.br_t ?_
  | with_reducible refine LH.br_f ?_)
local macro_rules | `(tactic| walk_at "rs") => `(tactic| repeat (walk_at "rs1"))

section
variable {P : Program} {w : World} {K : PySem.W.Frag} {mg : Str → Option Value} {base : Heap} {a : Ad}
def spHInit (K : PySem.W.Frag) (C BC BH : Addr) : Sp := fun vs H Q E => ∃ p dx x y T1 T2, vs = [.ref p, x, y] ∧ H p = some (.ins C dx []) ∧ TyB K H x T1 ∧ TyB K H y T2 ∧
  (isW x 1 12 = false → E (.ref BC) none H) ∧ (∀ c, x = .int c → isW x 1 12 = true → isW y 0 (c - 1) = false → E (.ref BH) none H) ∧
  ∀ c o, x = .int c → y = .int o → 1 ≤ c → c ≤ 12 → 0 ≤ o → o < c → ∀ (h : HA) H', h.p = p → (∀ b ∈ h.S, b ≠ p → H b = none) → LH.Ks [p] H H' → (∀ F, HouseAt C F H' h (HS.new c o)) → Q .non H'
theorem ok_House___init__ (T : Txt K mg a) : FnOk P w K mg base (L2N.CX P w) 3 a.House___init__ a.d_House___init__ ["self", "count", "own"] (spHInit K a.House a.BadCount a.BadHouse) := by
  have G_check_count := ok_check_count (P := P) (w := w) (base := base) T
  have G_is_house := ok_is_house (P := P) (w := w) (base := base) T
  refine LH.okN T.F_House___init__ sc_House___init__ (fun vs H Q E h => ?_) (fun cdv A outer s H vs Q E hr h => ?_)
  · obtain ⟨p, dx, x, y, T1, T2, rfl, _⟩ := h
    rfl
  · obtain ⟨p, dx, x, y, T1, T2, rfl, hp, t1, t2, b1, b2, k⟩ := h
    have HR_check_count : Room 2 _ := hr.mono (by decide)
    have HR_is_house : Room 2 _ := hr.mono (by decide)
    refine ⟨_, (pss_cons (ps_expr (pe_call (E := E) G_check_count HR_check_count rfl T.g_check_count T.F_check_count.kp T.b_check_count .nil (L2N.passes_call (LH.tkN (E := E)) fun _ _ _ _ z => z) (pa_cons (pv 1) pa_nil)))
  (pss_cons (ps_if (pt_not (pt_val (pe_call G_is_house HR_is_house rfl T.g_is_house T.F_is_house.kp T.b_is_house .nil pass0 (pa_cons (pv 1) (pa_cons (pv 2) pa_nil)))))
    (pss_one (L2N.ps_raise rfl (LH.tkN (E := E)) (LH.pmkN PySem.F.excBase_ValueError T.x_BadHouse T.g_BadHouse T.k_BadHouse (raises_own T.bx_BadHouse T.t_BadHouse) rfl (pa_cons pe_str pa_nil))))
    pss_nil)
  (pss_cons (ps_fld (pv 0) (pv 1) rfl)
  (pss_cons (ps_fld (pv 0) (pv 2) rfl)
  (pss_cons (ps_fld (pv 0) (pv 2) rfl)
  (pss_cons (ps_fld (pv 0) pe_dnewT rfl)
  (pss_cons (ps_fld (pv 0) pe_dnewT rfl)
  (pss_cons (ps_fld (pv 0) pe_dnewK rfl)
  (pss_cons (ps_fld (pv 0) pe_dnewT rfl)
  (pss_cons (ps_fld (pv 0) pe_dnewK rfl)
  (pss_cons (ps_fld (pv 0) pe_dnewK rfl)
  (pss_one (ps_fld (pv 0) pe_dnewK rfl))))))))))))), ?_⟩
    walk_at "rd"
    refine ⟨x, T1, rfl, t1, fun e1 => ?_, fun e1 => b1 e1⟩
    obtain ⟨c, rfl, c1, c2⟩ := isW_int e1
    walk_at "rd"
    refine ⟨c, y, T2, rfl, t2, ?_⟩
    walk_at "rd"
    cases e2 : isW y 0 (c - 1) with
    | false =>
      refine LH.br_nf ?_
      walk_at "rd"
      exact ⟨by show 1 ≤ sizeLine; decide, b2 c rfl e1 e2⟩
    | true =>
    obtain ⟨w0, rfl, o1, o2⟩ := isW_int e2
    refine LH.br_nt ?_
    walk_at "rd"
    refine LH.sfldv hp T.cl_House T.na_House__count (by show 0 < 1000; decide) fun H1 k1 g1 => ?_
    walk_at "rd"
    refine LH.sfldv (fs := [("_count", .int c)]) g1 T.cl_House T.na_House__own (by show 1 < 1000; decide) fun H2 k2 g2 => ?_
    walk_at "rd"
    refine LH.sfldv (fs := [("_count", .int c), ("_own", .int w0)]) g2 T.cl_House T.na_House__due (by show 2 < 1000; decide) fun H3 k3 g3 => ?_
    walk_at "rd"
    have c3 : ∀ y o, y ≠ p → H y = some o → H3 y = some o := fun y o n q => k3 _ _ (k2 _ _ (k1 _ _ q n) n) n
    refine LH.x_dnewT fun kn A0 fa0 ea0 ga0 => ?_
    walk_at "rd"
    refine LH.sfldv (fs := [("_count", .int c), ("_own", .int w0), ("_due", .int w0)]) (ea0 _ _ g3) T.cl_House T.na_House__known (by show 3 < 1000; decide) fun B0 kb0 gb0 => ?_
    walk_at "rd"
    have np0 : kn ≠ p := fun q => by rw [q, g3] at fa0; cases fa0
    have st0 : ∀ y o, y ≠ p → H3 y = some o → B0 y = some o := fun y o n q => kb0 _ _ (ea0 _ _ q) n
    have d0_0 : B0 kn = some (.dT []) := kb0 _ _ ga0 np0
    have fr0 : H kn = none := by
      cases q : H kn with
      | none => rfl
      | some o => rw [c3 _ _ np0 q] at fa0; cases fa0
    have cc0 : ∀ y o, y ≠ p → H y = some o → B0 y = some o := fun y o n q => st0 _ _ n (c3 _ _ n q)
    refine LH.x_dnewT fun ea A1 fa1 ea1 ga1 => ?_
    walk_at "rd"
    refine LH.sfldv (fs := [("_count", .int c), ("_own", .int w0), ("_due", .int w0), ("_known", .ref kn)]) (ea1 _ _ gb0) T.cl_House T.na_House__earliest (by show 4 < 1000; decide) fun B1 kb1 gb1 => ?_
    walk_at "rd"
    have np1 : ea ≠ p := fun q => by rw [q, gb0] at fa1; cases fa1
    have st1 : ∀ y o, y ≠ p → B0 y = some o → B1 y = some o := fun y o n q => kb1 _ _ (ea1 _ _ q) n
    have d1_1 : B1 ea = some (.dT []) := kb1 _ _ ga1 np1
    have ne1_0 : ea ≠ kn := fun q => by rw [q, d0_0] at fa1; cases fa1
    have d0_1 : B1 kn = some (.dT []) := st1 _ _ np0 d0_0
    have fr1 : H ea = none := by
      cases q : H ea with
      | none => rfl
      | some o => rw [cc0 _ _ np1 q] at fa1; cases fa1
    have cc1 : ∀ y o, y ≠ p → H y = some o → B1 y = some o := fun y o n q => st1 _ _ n (cc0 _ _ n q)
    refine LH.x_dnew fun ma A2 fa2 ea2 ga2 => ?_
    walk_at "rd"
    refine LH.sfldv (fs := [("_count", .int c), ("_own", .int w0), ("_due", .int w0), ("_known", .ref kn), ("_earliest", .ref ea)]) (ea2 _ _ gb1) T.cl_House T.na_House__marked (by show 5 < 1000; decide) fun B2 kb2 gb2 => ?_
    walk_at "rd"
    have np2 : ma ≠ p := fun q => by rw [q, gb1] at fa2; cases fa2
    have st2 : ∀ y o, y ≠ p → B1 y = some o → B2 y = some o := fun y o n q => kb2 _ _ (ea2 _ _ q) n
    have d2_2 : B2 ma = some (.dK []) := kb2 _ _ ga2 np2
    have ne2_0 : ma ≠ kn := fun q => by rw [q, d0_1] at fa2; cases fa2
    have d0_2 : B2 kn = some (.dT []) := st2 _ _ np0 d0_1
    have ne2_1 : ma ≠ ea := fun q => by rw [q, d1_1] at fa2; cases fa2
    have d1_2 : B2 ea = some (.dT []) := st2 _ _ np1 d1_1
    have fr2 : H ma = none := by
      cases q : H ma with
      | none => rfl
      | some o => rw [cc1 _ _ np2 q] at fa2; cases fa2
    have cc2 : ∀ y o, y ≠ p → H y = some o → B2 y = some o := fun y o n q => st2 _ _ n (cc1 _ _ n q)
    refine LH.x_dnewT fun ms A3 fa3 ea3 ga3 => ?_
    walk_at "rd"
    refine LH.sfldv (fs := [("_count", .int c), ("_own", .int w0), ("_due", .int w0), ("_known", .ref kn), ("_earliest", .ref ea), ("_marked", .ref ma)]) (ea3 _ _ gb2) T.cl_House T.na_House__marks (by show 6 < 1000; decide) fun B3 kb3 gb3 => ?_
    walk_at "rd"
    have np3 : ms ≠ p := fun q => by rw [q, gb2] at fa3; cases fa3
    have st3 : ∀ y o, y ≠ p → B2 y = some o → B3 y = some o := fun y o n q => kb3 _ _ (ea3 _ _ q) n
    have d3_3 : B3 ms = some (.dT []) := kb3 _ _ ga3 np3
    have ne3_0 : ms ≠ kn := fun q => by rw [q, d0_2] at fa3; cases fa3
    have d0_3 : B3 kn = some (.dT []) := st3 _ _ np0 d0_2
    have ne3_1 : ms ≠ ea := fun q => by rw [q, d1_2] at fa3; cases fa3
    have d1_3 : B3 ea = some (.dT []) := st3 _ _ np1 d1_2
    have ne3_2 : ms ≠ ma := fun q => by rw [q, d2_2] at fa3; cases fa3
    have d2_3 : B3 ma = some (.dK []) := st3 _ _ np2 d2_2
    have fr3 : H ms = none := by
      cases q : H ms with
      | none => rfl
      | some o => rw [cc2 _ _ np3 q] at fa3; cases fa3
    have cc3 : ∀ y o, y ≠ p → H y = some o → B3 y = some o := fun y o n q => st3 _ _ n (cc2 _ _ n q)
    refine LH.x_dnew fun ro A4 fa4 ea4 ga4 => ?_
    walk_at "rd"
    refine LH.sfldv (fs := [("_count", .int c), ("_own", .int w0), ("_due", .int w0), ("_known", .ref kn), ("_earliest", .ref ea), ("_marked", .ref ma), ("_marks", .ref ms)]) (ea4 _ _ gb3) T.cl_House T.na_House__rows (by show 7 < 1000; decide) fun B4 kb4 gb4 => ?_
    walk_at "rd"
    have np4 : ro ≠ p := fun q => by rw [q, gb3] at fa4; cases fa4
    have st4 : ∀ y o, y ≠ p → B3 y = some o → B4 y = some o := fun y o n q => kb4 _ _ (ea4 _ _ q) n
    have d4_4 : B4 ro = some (.dK []) := kb4 _ _ ga4 np4
    have ne4_0 : ro ≠ kn := fun q => by rw [q, d0_3] at fa4; cases fa4
    have d0_4 : B4 kn = some (.dT []) := st4 _ _ np0 d0_3
    have ne4_1 : ro ≠ ea := fun q => by rw [q, d1_3] at fa4; cases fa4
    have d1_4 : B4 ea = some (.dT []) := st4 _ _ np1 d1_3
    have ne4_2 : ro ≠ ma := fun q => by rw [q, d2_3] at fa4; cases fa4
    have d2_4 : B4 ma = some (.dK []) := st4 _ _ np2 d2_3
    have ne4_3 : ro ≠ ms := fun q => by rw [q, d3_3] at fa4; cases fa4
    have d3_4 : B4 ms = some (.dT []) := st4 _ _ np3 d3_3
    have fr4 : H ro = none := by
      cases q : H ro with
      | none => rfl
      | some o => rw [cc3 _ _ np4 q] at fa4; cases fa4
    have cc4 : ∀ y o, y ≠ p → H y = some o → B4 y = some o := fun y o n q => st4 _ _ n (cc3 _ _ n q)
    refine LH.x_dnew fun ba A5 fa5 ea5 ga5 => ?_
    walk_at "rd"
    refine LH.sfldv (fs := [("_count", .int c), ("_own", .int w0), ("_due", .int w0), ("_known", .ref kn), ("_earliest", .ref ea), ("_marked", .ref ma), ("_marks", .ref ms), ("_rows", .ref ro)]) (ea5 _ _ gb4) T.cl_House T.na_House__backings (by show 8 < 1000; decide) fun B5 kb5 gb5 => ?_
    walk_at "rd"
    have np5 : ba ≠ p := fun q => by rw [q, gb4] at fa5; cases fa5
    have st5 : ∀ y o, y ≠ p → B4 y = some o → B5 y = some o := fun y o n q => kb5 _ _ (ea5 _ _ q) n
    have d5_5 : B5 ba = some (.dK []) := kb5 _ _ ga5 np5
    have ne5_0 : ba ≠ kn := fun q => by rw [q, d0_4] at fa5; cases fa5
    have d0_5 : B5 kn = some (.dT []) := st5 _ _ np0 d0_4
    have ne5_1 : ba ≠ ea := fun q => by rw [q, d1_4] at fa5; cases fa5
    have d1_5 : B5 ea = some (.dT []) := st5 _ _ np1 d1_4
    have ne5_2 : ba ≠ ma := fun q => by rw [q, d2_4] at fa5; cases fa5
    have d2_5 : B5 ma = some (.dK []) := st5 _ _ np2 d2_4
    have ne5_3 : ba ≠ ms := fun q => by rw [q, d3_4] at fa5; cases fa5
    have d3_5 : B5 ms = some (.dT []) := st5 _ _ np3 d3_4
    have ne5_4 : ba ≠ ro := fun q => by rw [q, d4_4] at fa5; cases fa5
    have d4_5 : B5 ro = some (.dK []) := st5 _ _ np4 d4_4
    have fr5 : H ba = none := by
      cases q : H ba with
      | none => rfl
      | some o => rw [cc4 _ _ np5 q] at fa5; cases fa5
    have cc5 : ∀ y o, y ≠ p → H y = some o → B5 y = some o := fun y o n q => st5 _ _ n (cc4 _ _ n q)
    refine LH.x_dnew fun nm A6 fa6 ea6 ga6 => ?_
    walk_at "rd"
    refine LH.sfldv (fs := [("_count", .int c), ("_own", .int w0), ("_due", .int w0), ("_known", .ref kn), ("_earliest", .ref ea), ("_marked", .ref ma), ("_marks", .ref ms), ("_rows", .ref ro), ("_backings", .ref ba)]) (ea6 _ _ gb5) T.cl_House T.na_House__named (by show 9 < 1000; decide) fun B6 kb6 gb6 => ?_
    walk_at "rd"
    have np6 : nm ≠ p := fun q => by rw [q, gb5] at fa6; cases fa6
    have st6 : ∀ y o, y ≠ p → B5 y = some o → B6 y = some o := fun y o n q => kb6 _ _ (ea6 _ _ q) n
    have d6_6 : B6 nm = some (.dK []) := kb6 _ _ ga6 np6
    have ne6_0 : nm ≠ kn := fun q => by rw [q, d0_5] at fa6; cases fa6
    have d0_6 : B6 kn = some (.dT []) := st6 _ _ np0 d0_5
    have ne6_1 : nm ≠ ea := fun q => by rw [q, d1_5] at fa6; cases fa6
    have d1_6 : B6 ea = some (.dT []) := st6 _ _ np1 d1_5
    have ne6_2 : nm ≠ ma := fun q => by rw [q, d2_5] at fa6; cases fa6
    have d2_6 : B6 ma = some (.dK []) := st6 _ _ np2 d2_5
    have ne6_3 : nm ≠ ms := fun q => by rw [q, d3_5] at fa6; cases fa6
    have d3_6 : B6 ms = some (.dT []) := st6 _ _ np3 d3_5
    have ne6_4 : nm ≠ ro := fun q => by rw [q, d4_5] at fa6; cases fa6
    have d4_6 : B6 ro = some (.dK []) := st6 _ _ np4 d4_5
    have ne6_5 : nm ≠ ba := fun q => by rw [q, d5_5] at fa6; cases fa6
    have d5_6 : B6 ba = some (.dK []) := st6 _ _ np5 d5_5
    have fr6 : H nm = none := by
      cases q : H nm with
      | none => rfl
      | some o => rw [cc5 _ _ np6 q] at fa6; cases fa6
    have cc6 : ∀ y o, y ≠ p → H y = some o → B6 y = some o := fun y o n q => st6 _ _ n (cc5 _ _ n q)
    refine k c w0 rfl rfl c1 c2 o1 (by omega) ⟨p, kn, ea, ma, ms, ro, ba, nm, []⟩ B6 rfl (fun b hb nb => ?_) (fun b o q n => ?_) fun F => ?_
    · unfold HA.S at hb
      simp only [List.mem_cons, List.map_nil, List.not_mem_nil, or_false] at hb
      rcases hb with rfl | rfl | rfl | rfl | rfl | rfl | rfl | rfl
      · exact absurd rfl nb
      all_goals assumption
    · exact cc6 _ _ (by simpa using n) q
    · refine ⟨⟨dx, gb6⟩, ⟨[], d0_6, Nat.le_refl _, fun j => ⟨(fun q => nomatch q), fun ⟨w, hw, _⟩ => nomatch hw⟩⟩, ⟨[], d1_6, Nat.le_refl _, fun j => ⟨fun _ => rfl, fun w q => nomatch q⟩⟩, ⟨[], d2_6, Nat.le_refl _, fun j => ⟨(fun q => nomatch q), fun q => nomatch q⟩⟩,
        ⟨d3_6, List.nodup_nil, (fun e he => nomatch he), fun j => ⟨fun q => absurd rfl q, fun q => nomatch q⟩⟩, d4_6, ⟨[], d5_6, .nil⟩, ⟨[], d6_6, .nil⟩, ?_, Good.new c1 c2 o1 (by omega)⟩
      show [p, kn, ea, ma, ms, ro, ba, nm].Nodup
      simp only [List.nodup_cons, List.mem_cons, List.not_mem_nil, or_false, not_or, not_false_eq_true, List.nodup_nil, and_true]
      exact ⟨⟨Ne.symm np0, Ne.symm np1, Ne.symm np2, Ne.symm np3, Ne.symm np4, Ne.symm np5, Ne.symm np6⟩, ⟨Ne.symm ne1_0, Ne.symm ne2_0, Ne.symm ne3_0, Ne.symm ne4_0, Ne.symm ne5_0, Ne.symm ne6_0⟩, ⟨Ne.symm ne2_1, Ne.symm ne3_1, Ne.symm ne4_1, Ne.symm ne5_1, Ne.symm ne6_1⟩, ⟨Ne.symm ne3_2, Ne.symm ne4_2, Ne.symm ne5_2, Ne.symm ne6_2⟩, ⟨Ne.symm ne4_3, Ne.symm ne5_3, Ne.symm ne6_3⟩, ⟨Ne.symm ne5_4, Ne.symm ne6_4⟩, Ne.symm ne6_5⟩
end
end K6
namespace K6
open PySem L2 LM HM
local macro_rules | `(tactic| walk_at "rd1") => `(tactic| first
  | with_reducible refine LH.x_seq ?_
  | with_reducible refine LH.x_asg ?_
  | with_reducible refine LH.x_cons ?_
  | with_reducible refine LH.x_var (by with_unfolding_all exact rfl) ?_
  | with_reducible refine LH.x_c ?_
  | with_reducible refine LH.x_op ?_
  | with_reducible refine LH.x_gname ?_
  | with_reducible refine LH.x_nil ?_
  | with_reducible refine LH.x_I0 ?_
  | ((with_reducible refine LH.x_I ?k1 ?_); (case k1 => first | exact (by decide) | exact ⟨by decide, by decide⟩ | exact ⟨by decide, by decide, by decide⟩ | exact .inl ⟨by decide, by decide⟩ | exact .inr ⟨by decide, by decide⟩ | exact .inr ⟨by omega, by omega⟩ | exact .inl ⟨by omega, by omega⟩ | exact (by omega)))
  | with_reducible refine LH.x_ifS ?_
  | with_reducible refine LH.x_test ?_
  | with_reducible refine LH.x_tB ?_
  | with_reducible refine LH.bx ?_
  | with_reducible refine LH.x_and ?_
  | with_reducible refine LH.x_or ?_
  | with_reducible refine LH.x_not ?_
  | with_reducible refine LH.x_ret ?_
  | with_reducible refine LH.x_call ?_
  | with_reducible refine LH.x_cb ?_
  | with_reducible refine LH.x_lst ?_
  | with_reducible refine LH.x_tup ?_
  | with_reducible refine LH.x_bm ?_
  | with_reducible refine LH.x_drop ?_
  | with_reducible refine LH.x_next ?_
  | with_reducible refine LH.x_cont ?_
  | with_reducible refine LH.x_un ?_
  | with_reducible refine LH.x_U ?_
  | with_reducible refine LH.x_eq (by with_unfolding_all exact rfl) ?_
  | with_reducible refine LH.x_ne (by with_unfolding_all exact rfl) ?_
  | with_reducible refine LH.x_andV ?_
  | with_reducible refine LH.x_orV ?_
  | with_reducible refine LH.x_notV ?_
  | with_reducible refine LH.band ?_
  | with_reducible refine LH.bor ?_
  | with_reducible refine LH.x_if ?_
  | with_reducible refine LH.x_chain ?_
  | with_reducible refine LH.chk ?_
  | with_reducible refine LH.x_callS ?_
  | with_reducible refine LH.x_callE ?_
  | with_reducible refine LH.x_callV ?_
  | with_reducible refine LH.x_lrg ?_
  | with_reducible refine LH.x_lcS ?_
  | with_reducible refine LH.x_lcR1 ?_
  | with_reducible refine LH.x_forR1 ?_
  | with_reducible refine LH.x_forR3 ?_
  | with_reducible refine LH.strv ?_
  | with_reducible refine LH.x_yes ?_
  | with_reducible refine LH.x_sl ?_
  | with_reducible refine LH.x_noPart ?_
  | with_reducible refine LH.x_part ?_
  | with_reducible refine LH.pav ?_
  | with_reducible refine LH.x_jnv ?_
  | with_reducible refine LH.x_join ?_
  | with_reducible refine LH.x_inS ?_
  | with_reducible refine LH.x_niS ?_
  | with_reducible refine LH.x_isB ?_
  | with_reducible refine LH.x_isnB ?_
  | with_reducible refine LH.x_gcons ?_
  | with_reducible refine LH.x_gnil ?_
  | with_reducible refine LH.x_intB ?_
  | with_reducible refine LH.x_orT ?_
  | with_reducible refine LH.x_isTy ?_
  | with_reducible refine LH.x_niTy ?_
  | with_reducible refine LH.x_split ?_
  | with_reducible refine LH.x_spv ?_
  | with_reducible refine LH.x_gsub ?_
  | with_reducible refine LH.x_fmt ?_
  | with_reducible refine LH.x_js0 ?_
  | with_reducible refine LH.x_js ?_
  | with_reducible refine LH.x_rg1 ?_
  | with_reducible refine LH.x_forL ?_
  | with_reducible refine LH.x_abs ?_
  | with_reducible refine LH.x_rg2 ?_
  | with_reducible refine LH.rg1v ?_
  | with_reducible refine LH.rg2v ?_
  | with_reducible refine LH.x_forR2 ?_
  | with_reducible refine LH.x_lenSetG ?_
  | with_reducible refine LH.x_lc ?_
  | with_reducible refine LH.x_fld ?_
  | with_reducible refine LH.x_sfld ?_
  | with_reducible refine LH.x_afld ?_
  | with_reducible refine LH.x_meth ?_
  | with_reducible refine LH.x_make ?_
  | with_reducible refine LH.x_methSl ?_
  | with_reducible refine LH.x_makeSl ?_
  | with_reducible refine LH.x_din ?_
  | with_reducible refine LH.x_dni ?_
  | with_reducible refine LH.x_dget ?_
  | with_reducible refine LH.x_dput ?_
  | with_reducible refine LH.x_dget2 ?_
  | with_reducible refine LH.x_dpop1 ?_
  | with_reducible refine LH.x_litems ?_
  | with_reducible refine LH.x_tru ?_
  | with_reducible refine LH.x_revL ?_
  | with_reducible refine LH.x_dsetT ?_
  | with_reducible refine LH.x_lvals ?_
  | with_reducible refine LH.br_nt ?_
  | with_reducible refine LH.br_nf ?_
  | with_reducible refine LH.br_t ?_
  | with_reducible refine LH.br_f ?_)
local macro_rules | `(tactic| walk_at "rd") => `(tactic| repeat (walk_at "rd1"))
local macro_rules | `(tactic| walk_at "rs1") => `(tactic| first
  | with_reducible refine LH.x_seq ?_
  | with_reducible refine LH.x_cons ?_
  | with_reducible refine LH.x_var (by with_unfolding_all exact rfl) ?_
  | with_reducible refine LH.x_c ?_
  | with_reducible refine LH.x_op ?_
  | with_reducible refine LH.x_gname ?_
  | with_reducible refine LH.x_nil ?_
  | with_reducible refine LH.x_I0 ?_
  | ((with_reducible refine LH.x_I ?k1 ?_); (case k1 => first | exact (by decide) | exact ⟨by decide, by decide⟩ | exact ⟨by decide, by decide, by decide⟩ | exact .inl ⟨by decide, by decide⟩ | exact .inr ⟨by decide, by decide⟩ | exact .inr ⟨by omega, by omega⟩ | exact .inl ⟨by omega, by omega⟩ | exact (by omega)))
  | with_reducible refine LH.x_test ?_
  | with_reducible refine LH.x_tB ?_
  | with_reducible refine LH.bx ?_
  | with_reducible refine LH.x_and ?_
  | with_reducible refine LH.x_or ?_
  | with_reducible refine LH.x_not ?_
  | with_reducible refine LH.x_call ?_
  | with_reducible refine LH.x_cb ?_
  | with_reducible refine LH.x_lst ?_
  | with_reducible refine LH.x_tup ?_
  | with_reducible refine LH.x_bm ?_
  | with_reducible refine LH.x_next ?_
  | with_reducible refine LH.x_cont ?_
  | with_reducible refine LH.x_un ?_
  | with_reducible refine LH.x_U ?_
  | with_reducible refine LH.x_eq (by with_unfolding_all exact rfl) ?_
  | with_reducible refine LH.x_ne (by with_unfolding_all exact rfl) ?_
  | with_reducible refine LH.x_andV ?_
  | with_reducible refine LH.x_orV ?_
  | with_reducible refine LH.x_notV ?_
  | with_reducible refine LH.band ?_
  | with_reducible refine LH.bor ?_
  | with_reducible refine LH.x_if ?_
  | with_reducible refine LH.x_chain ?_
  | with_reducible refine LH.chk ?_
  | with_reducible refine LH.x_callS ?_
  | with_reducible refine LH.x_callE ?_
  | with_reducible refine LH.x_callV ?_
  | with_reducible refine LH.x_lrg ?_
  | with_reducible refine LH.x_lcS ?_
  | with_reducible refine LH.x_lcR1 ?_
  | with_reducible refine LH.strv ?_
  | with_reducible refine LH.x_yes ?_
  | with_reducible refine LH.x_sl ?_
  | with_reducible refine LH.x_noPart ?_
  | with_reducible refine LH.x_part ?_
  | with_reducible refine LH.pav ?_
  | with_reducible refine LH.x_jnv ?_
  | with_reducible refine LH.x_join ?_
  | with_reducible refine LH.x_inS ?_
  | with_reducible refine LH.x_niS ?_
  | with_reducible refine LH.x_isB ?_
  | with_reducible refine LH.x_isnB ?_
  | with_reducible refine LH.x_gcons ?_
  | with_reducible refine LH.x_gnil ?_
  | with_reducible refine LH.x_intB ?_
  | with_reducible refine LH.x_orT ?_
  | with_reducible refine LH.x_isTy ?_
  | with_reducible refine LH.x_niTy ?_
  | with_reducible refine LH.x_split ?_
  | with_reducible refine LH.x_spv ?_
  | with_reducible refine LH.x_gsub ?_
  | with_reducible refine LH.x_fmt ?_
  | with_reducible refine LH.x_js0 ?_
  | with_reducible refine LH.x_js ?_
  | with_reducible refine LH.x_rg1 ?_
  | with_reducible refine LH.x_abs ?_
  | with_reducible refine LH.x_rg2 ?_
  | with_reducible refine LH.rg1v ?_
  | with_reducible refine LH.rg2v ?_
  | with_reducible refine LH.x_lenSetG ?_
  | with_reducible refine LH.x_lc ?_
  | with_reducible refine LH.x_fld ?_
  | with_reducible refine LH.x_sfld ?_
  | with_reducible refine LH.x_afld ?_
  | with_reducible refine LH.x_meth ?_
  | with_reducible refine LH.x_make ?_
  | with_reducible refine LH.x_methSl ?_
  | with_reducible refine LH.x_makeSl ?_
  | with_reducible refine LH.x_din ?_
  | with_reducible refine LH.x_dni ?_
  | with_reducible refine LH.x_dget ?_
  | with_reducible refine LH.x_dput ?_
  | with_reducible refine LH.x_dget2 ?_
  | with_reducible refine LH.x_dpop1 ?_
  | with_reducible refine LH.x_litems ?_
  | with_reducible refine LH.x_tru ?_
  | with_reducible refine LH.x_revL ?_
  | with_reducible refine LH.x_dsetT ?_
  | with_reducible refine LH.x_lvals ?_
  | with_reducible refine LH.br_nt ?_
  | with_reducible refine LH.br_nf ?_
  | with_reducible refine LH.br_t ?_
  | with_reducible refine LH.br_f ?_)
local macro_rules | `(tactic| walk_at "rs") => `(tactic| repeat (walk_at "rs1"))

section
variable {P : Program} {w : World} {K : PySem.W.Frag} {mg : Str → Option Value} {base : Heap} {a : Ad}
def spHCall (K : PySem.W.Frag) (C BR : Addr) : Sp := fun vs H Q E => ∃ h st x T1 M, vs = [.ref (h : HA).p, x] ∧ Std C M H h st ∧ TyB K H x T1 ∧ Sm x ∧ st.size ≤ 19970 ∧
  (isRow x = false → ∀ H', Same H H' → E (.ref BR) none H') ∧
  ∀ z, x = .str z → isRow x = true → ∀ H' N h' r xs, Nxt C M H h (st.call z) H' N h' → H r = none → r ∉ N → H' r = some (.lst xs) → TW (LH.Fr (N ++ M) H') xs (st.callT z) → HouseAt C (LH.Fr (r :: (N ++ M)) H') H' h' (st.call z) → Q (.ref r) H'
theorem isRow_str {x : V} (h : isRow x = true) : ∃ z, x = .str z ∧ isRowS z = true := by
  cases x with
  | str z => exact ⟨z, rfl, h⟩
  | _ => cases h
theorem ok_House_call (T : Txt K mg a) : FnOk P w K mg base (L2N.CX P w) 7 a.House_call a.d_House_call ["self", "row"] (spHCall K a.House a.BadRow) := by
  have G_is_row := ok_is_row (P := P) (w := w) (base := base) T
  have G_House_hear := ok_House_hear (P := P) (w := w) (base := base) T
  refine LH.okN T.F_House_call sc_House_call (fun vs H Q E h => ?_) (fun cdv A outer s H vs Q E hr h => ?_)
  · obtain ⟨h, st, x, T1, M, rfl, _⟩ := h
    rfl
  · obtain ⟨h, st, x, T1, M, rfl, S, t1, sx, sz, b1, k⟩ := h
    obtain ⟨⟨dx, hp⟩, pkn, pea, pma, pms, pro, pba, pnm, nd, go⟩ := id S.at_
    obtain ⟨n1, n2, n3, n4, n5, n6, n7, n8, n9⟩ := HA.nes nd
    simp only [List.mem_cons, List.not_mem_nil, or_false, not_or] at n1 n2 n3 n4 n5 n6
    have HR_is_row : Room 1 _ := hr.mono (by decide)
    have HR_House_hear : Room 6 _ := hr.mono (by decide)
    refine ⟨_, (pss_cons (ps_if (pt_not (pt_val (pe_call G_is_row HR_is_row rfl T.g_is_row T.F_is_row.kp T.b_is_row .nil pass0 (pa_cons (pv 1) pa_nil))))
    (pss_one (L2N.ps_raise rfl (LH.tkN (E := E)) (LH.pmkN PySem.F.excBase_ValueError T.x_BadRow T.g_BadRow T.k_BadRow (raises_own T.bx_BadRow T.t_BadRow) rfl (pa_cons pe_str pa_nil))))
    pss_nil)
  (pss_cons (ps_set (i := 2) sc_House_call.nd rfl (Or.inl rfl) (pe_tup (pa_cons (pe_glob (v := .str "say") rfl T.m_SAY ⟨_, rfl⟩) (pa_cons (pe_fld (pv 0) rfl) (pa_cons (pv 1) (pa_cons (pe_fld (pv 0) rfl) pa_nil))))))
  (pss_cons (ps_fldaug (pv 0) (pe_fld (pv 0) rfl) in_add)
  (pss_one (ps_ret (pe_op (r := LH.rCatS K) LH.op_catS (pe_lst (pa_cons (pv 2) pa_nil)) (pe_meth (pv 0) T.cl_House T.me_House_hear G_House_hear HR_House_hear T.b_House_hear .nil pass0 (pa_cons (pv 2) pa_nil)))))))), ?_⟩
    walk_at "rd"
    refine ⟨x, T1, rfl, t1, sx, fun H1 e1 => ?_⟩
    walk_at "rd"
    cases e : isRow x with
    | false =>
      refine LH.br_nf ?_
      walk_at "rd"
      exact ⟨by show 1 ≤ sizeLine; decide, b1 e H1 e1⟩
    | true =>
      obtain ⟨z, rfl, rz⟩ := isRow_str e
      refine LH.br_nt ?_
      walk_at "rd"
      refine LH.fldv (e1 _ _ hp) T.cl_House T.na_House__due rfl ?_
      walk_at "rd"
      refine LH.fldv (e1 _ _ hp) T.cl_House T.na_House__own rfl ?_
      walk_at "rd"
      refine LH.newt (LH.small rfl) fun t H2 f2 e2 g2 => ?_
      walk_at "rd"
      have e12 := e1.trans e2
      have hp2 := e12 _ _ hp
      refine LH.afldI (i := st.due) (j := st.c) hp2 T.cl_House T.na_House__due rfl (by show 10 < 1000; decide) (fun Q q => ?_) (fun Q q => ?_) fun H3 k3 g3 => ?_
      · exact LH.x_I0 q
      · walk_at "rd"
        exact LH.fldv hp2 T.cl_House T.na_House__count rfl q
      walk_at "rd"
      have tH : H t = none := LH.Same.none e1 f2
      have tM : t ∉ M := LH.not_in tH S.al
      have tp : t ≠ h.p := fun q => tM (q ▸ S.sub _ (inS8 _ (by simp)))
      have g2' : H3 t = some (.tup (sayOf st z).vs) := k3 _ _ g2 tp
      have keep3 : ∀ y o, H y = some o → y ≠ h.p → H3 y = some o := fun y o q n => k3 _ _ (e12 _ _ q) n
      have kM : LH.Ks M H H3 := fun y o q n => keep3 y o q fun e => n (e ▸ S.sub _ (inS8 _ (by simp)))
      have f3 : Same (LH.Fr M H) (LH.Fr M H3) := kM.fr
      let st2 : HS := { st with due := st.due + st.c }
      have at3 : HouseAt a.House (LH.Fr M H3) H3 h st2 := by
        refine ⟨⟨dx, g3⟩, pkn.to fun o q => keep3 _ o q (Ne.symm n1.1), pea.to f3 fun o q => keep3 _ o q (Ne.symm n1.2.1), pma.to fun o q => keep3 _ o q (Ne.symm n1.2.2.1), pms.to f3 fun y o hy q => ?_, pro.to fun o q => keep3 _ o q (Ne.symm n1.2.2.2.2.1), pba.to f3 fun o q => keep3 _ o q (Ne.symm n1.2.2.2.2.2.1), pnm.to f3 fun o q => keep3 _ o q (Ne.symm n1.2.2.2.2.2.2), nd, ⟨go.c1, go.c2, go.o1, go.o2, go.nd, go.wd, go.mn, go.rn, go.bn, go.nn, go.rk, go.bk, go.nk⟩⟩
        rcases hy with rfl | hy
        · exact keep3 _ _ q (Ne.symm n1.2.2.2.1)
        · have := n8 _ hy
          simp only [List.mem_cons, List.not_mem_nil, or_false, not_or] at this
          exact keep3 _ _ q this.1
      have S3 : Std a.House M H3 h st2 := ⟨at3, S.sub, fun y hy => by
        by_cases c1 : y = h.p
        · rw [c1]; exact ⟨_, g3⟩
        · obtain ⟨o, q⟩ := S.al y hy
          exact ⟨o, keep3 _ _ q c1⟩, S.sm⟩
      refine LH.newl (LH.small rfl) fun r0 H4 f4 e4 g4 => ?_
      walk_at "rd"
      have S4 := S3.same e4
      obtain ⟨dx4, hp4⟩ := S4.self rfl
      refine LH.methv hp4 rfl ?_
      walk_at "rd"
      refine ⟨h, st2, .ref t, sayOf st z, M, rfl, S4, ⟨t, rfl, LH.fr_of (e4 _ _ g2') tM⟩, ⟨⟨ok_sayW, row_ok rz⟩, go.o1, go.o2⟩, by show st.size ≤ 19980; omega, fun H5 N h' r xs nx fr rn gr tr _ => ?_⟩
      have r0S : r0 ∉ h.S := fun m => by
        obtain ⟨o, q⟩ := S3.at_.alive r0 m
        rw [f4] at q
        cases q
      have g4' : H5 r0 = some (.lst [.ref t]) := nx.ks _ _ g4 r0S
      have lx : xs.length ≤ 15 := by
        rw [LH.Paired.len tr]
        unfold HS.hearT
        split
        · simp
        · rw [List.length_append, List.length_append]
          have h1 : ((st2.learn (sayOf st z)).markT (sayOf st z)).length ≤ 1 := by unfold HS.markT; split <;> simp
          have h2 : (((st2.learn (sayOf st z)).mark (sayOf st z)).backT (sayOf st z)).length ≤ 12 := by
            unfold HS.backT
            split
            · refine Nat.le_trans (?_ : _ ≤ ((List.range st.c.toNat).length)) (by rw [List.length_range]; have := go.c2; omega)
              have e : ((st2.learn (sayOf st z)).mark (sayOf st z)).c = st.c := by unfold HS.mark; split <;> rfl
              rw [e]
              exact List.length_filterMap_le _ _
            · simp
          have h3 : ((((st2.learn (sayOf st z)).mark (sayOf st z)).write (sayOf st z)).nameT (sayOf st z)).length ≤ 2 := by unfold HS.nameT; split <;> simp
          omega
      refine LH.x_catS (.of g4') (.of gr) (by simp; omega) fun r2 H6 f6 e6 g6 => ?_
      have nx6 := nx.same e6
      have back : ∀ y o, H y = some o → ∃ o', H4 y = some o' := fun y o q => by
        by_cases c1 : y = h.p
        · rw [c1]; exact ⟨_, hp4⟩
        · exact ⟨o, e4 _ _ (keep3 y o q c1)⟩
      have none4 : ∀ y, H4 y = none → H y = none := fun y q => by
        cases q2 : H y with
        | none => rfl
        | some o =>
          obtain ⟨o', q3⟩ := back y o q2
          rw [q] at q3
          cases q3
      obtain ⟨q1, q2⟩ := S4.fresh nx f6
      have tN : t ∉ N := fun m => by
        have := nx.nw t m
        rw [e4 _ _ g2'] at this
        cases this
      refine k z rfl e H6 N h' r2 _ ⟨fun y o q n => nx6.ks _ _ (e4 _ _ (keep3 y o q fun e => n (e ▸ inS8 _ (by simp)))) n, fun y hy => none4 y (nx.nw y hy), nx6.al, nx6.p, nx6.sub, nx6.sup, nx6.at_⟩ (none4 _ q1) q2 g6 ?_ (nx.at_.to (LH.fr_new f6 e6) fun b o _ q => e6 _ _ q)
      have tS : t ∉ h.S := fun m => tM (S.sub _ m)
      exact .cons ⟨t, rfl, LH.fr_of (e6 _ _ (nx.ks _ _ (e4 _ _ g2') tS)) fun m => (List.mem_append.mp m).elim tN tM⟩ (tr.up (LH.same_fr e6))
/-- the ledger as a dict -/
def ledK (st : HS) : List (Key × V) := st.nums.map fun n => (Sum.inl n, .str (st.rowAt n))
def spLedger (C : Addr) : Sp := fun vs H Q _ => ∃ h st F, vs = [.ref (h : HA).p] ∧ HouseAt C F H h st ∧ st.rows.length < 64 ∧ ∀ r H', H r = none → Same H H' → H' r = some (.dK (ledK st)) → Q (.ref r) H'
theorem ok_House_ledger (T : Txt K mg a) : FnOk P w K mg base CX0 1 a.House_ledger a.d_House_ledger ["self"] (spLedger a.House) := by
  refine T.F_House_ledger.ok sc_House_ledger (fun vs H Q E h => ?_) (fun cdv A outer s H vs Q E hr h => ?_)
  · obtain ⟨h, st, F, rfl, _⟩ := h
    rfl
  · obtain ⟨h, st, F, rfl, S, sz, k⟩ := h
    obtain ⟨⟨dx, hp⟩, pkn, pea, pma, pms, pro, pba, pnm, nd, go⟩ := id S
    refine ⟨_, (pss_one (ps_ret (pe_dc (own := [("number", 1)]) (g := gName 1) (tt := tYes) rfl sc_House_ledger.nd (pi_list (pe_callB (LH.call_srtD rfl) rfl T.n_sorted (by decide +kernel) (pa_cons (pe_fld (pv 0) rfl) pa_nil))) (blkOk_by (N := N_House_ledger) (sc := defScope s_House_ledger) (by decide +kernel)) (fun _ _ _ _ _ => pg_name (i := 1) sc_House_ledger.nd rfl (Or.inl rfl)) (fun _ _ _ _ _ => pts_nil) (fun _ _ _ _ _ => (pv 1)) (fun _ _ _ _ _ => (pe_dget (hu_of hr) (LH.pe_fldN (K := K) (pv 0) rfl) (pv 1) (fun _ _ => rfl)))))), ?_⟩
    walk_at "rd"
    refine LH.x_dc ?_
    walk_at "rd"
    refine LH.fldv hp T.cl_House T.na_House__rows rfl ?_
    walk_at "rd"
    refine LH.x_srtD (ks := st.rows.map (·.1)) pro (by rw [List.map_map, List.map_map]; rfl) (by rw [List.length_map]; omega) fun ys p H1 per so f1 e1 g1 => ?_
    have ey : ys = st.nums := sort_eq per so go.rn
    subst ey
    have mem : ∀ j, j ∈ st.nums → j ∈ st.rows.map (·.1) := fun j hj => nums_mem.mp hj
    refine LH.dc_L (SqL.of g1) (by rw [per.length_eq, List.length_map]; omega) (nums_nodup go) (fun n => .str (st.rowAt n)) (fun _ => rfl) ?_ ?_ fun r H2 f2 e2 g2 => ?_
    · intro i hi H2 e2 Q2 q2
      walk_at "rd"
      exact q2 _ (Same.refl _)
    · intro i hi H2 e2 Q2 q2
      walk_at "rd"
      refine LH.fldv ((e1.trans e2) _ _ hp) T.cl_House T.na_House__rows rfl ?_
      walk_at "rd"
      refine LH.getv (LH.getI ((e1.trans e2) _ _ pro)) (rowAt_val (mem i hi)) ?_
      exact q2 _ (Same.refl _)
    · exact k r H2 (LH.Same.none e1 f2) (e1.trans e2) g2
def spCaught (C : Addr) : Sp := fun vs H Q _ => ∃ h st F, vs = [.ref (h : HA).p] ∧ HouseAt C F H h st ∧ ∀ r H' (kvs : List (Key × V)), H r = none → Same H H' → H h.nm = some (.dK kvs) → H' r = some (.lst (kvs.map (·.2))) → Paired (Nm F) (kvs.map (·.2)) st.named → Q (.ref r) H'
theorem paired_vals {α : Type} {F : Key × V → α → Prop} {G : V → α → Prop} (hf : ∀ e x, F e x → G e.2 x) : ∀ {kvs : List (Key × V)} {l : List α}, Paired F kvs l → Paired G (kvs.map (·.2)) l
  | _, _, .nil => .nil
  | _, _, .cons q r => .cons (hf _ _ q) (paired_vals hf r)
theorem ok_House_caught (T : Txt K mg a) : FnOk P w K mg base CX0 1 a.House_caught a.d_House_caught ["self"] (spCaught a.House) := by
  refine T.F_House_caught.ok sc_House_caught (fun vs H Q E h => ?_) (fun cdv A outer s H vs Q E hr h => ?_)
  · obtain ⟨h, st, F, rfl, _⟩ := h
    rfl
  · obtain ⟨h, st, F, rfl, S, k⟩ := h
    obtain ⟨⟨dx, hp⟩, pkn, pea, pma, pms, pro, pba, ⟨kvs, g, pn⟩, nd, go⟩ := id S
    refine ⟨_, (pss_one (ps_ret (LH.pe_listValues rfl (pe_fld (pv 0) rfl) rfl T.n_list (by decide +kernel)))), ?_⟩
    walk_at "rd"
    refine LH.fldv hp T.cl_House T.na_House__named rfl ?_
    refine LH.lvv g fun r H1 f1 e1 g1 => ?_
    exact k r H1 kvs f1 e1 g g1 (paired_vals (fun _ _ q => q.2) pn)
def spBacking (K : PySem.W.Frag) (C NW : Addr) : Sp := fun vs H Q E => ∃ h st F x T1, vs = [.ref (h : HA).p, x] ∧ HouseAt C F H h st ∧ Same F H ∧ TyB K H x T1 ∧
  ((∃ i ws, x = .int i ∧ (st.backs.find? fun e => decide (e.1 = i)) = some (i, ws) ∧ ∀ r H' xs, H r = none → Same H H' → H' r = some (.lst xs) → TW F xs ws → Q (.ref r) H') ∨
    ((∀ i, x = .int i → (st.backs.find? fun e => decide (e.1 = i)) = none) ∧ E (.ref NW) none H))
theorem ok_House_backing (T : Txt K mg a) : FnOk P w K mg base (L2N.CX P w) 1 a.House_backing a.d_House_backing ["self", "number"] (spBacking K a.House a.NotWritten) := by
  refine LH.okN T.F_House_backing sc_House_backing (fun vs H Q E h => ?_) (fun cdv A outer s H vs Q E hr h => ?_)
  · obtain ⟨h, st, F, x, T1, rfl, _⟩ := h
    rfl
  · obtain ⟨h, st, F, x, T1, rfl, S, sF, t1, k⟩ := h
    obtain ⟨⟨dx, hp⟩, pkn, pea, pma, pms, pro, ⟨kvs, g, pb⟩, pnm, nd, go⟩ := id S
    refine ⟨_, (pss_cons (ps_if (PW.pt (pw_or (pt_cmpR op_notTyB (pe_callTy (r := rTyp K) call_type1 rfl T.n_type (by decide +kernel) (pa_cons (pv 1) pa_nil)) (pe_bltn (v := .ty "int") rfl T.n_int (by decide +kernel) rfl) (nomark _)) (pw_or1 (pt_cmp (pc_dnotin (hu_of hr) (pv 1) (pe_fld (pv 0) rfl))))))
    (pss_one (L2N.ps_raise rfl (LH.tkN (E := E)) (LH.pmkN PySem.F.excBase_ValueError T.x_NotWritten T.g_NotWritten T.k_NotWritten (raises_own T.bx_NotWritten T.t_NotWritten) rfl (pa_cons pe_str pa_nil))))
    pss_nil)
  (pss_one (ps_ret (pe_callTy (r := LH.rListOf K) LH.call_listOf rfl T.n_list (by decide +kernel) (pa_cons (pe_dget (hu_of hr) (pe_fld (pv 0) rfl) (pv 1) (fun _ _ => rfl)) pa_nil))))), ?_⟩
    walk_at "rd"
    refine LH.x_typ t1 ?_
    walk_at "rd"
    cases t1 with
    | int i =>
      refine LH.br_nd (fun c => absurd rfl c) (fun _ => ?_)
      walk_at "rd"
      refine LH.fldv hp T.cl_House T.na_House__backings rfl ?_
      walk_at "rd"
      refine LH.niv (LH.getI g) ?_
      have pg := paired_get (f := fun x : Int × List Wrd => x.1) (G := fun v x => Bk F v x.2) (fun _ _ q => q) (n := i) pb
      rcases k with ⟨j, ws, e, ef, k⟩ | ⟨k1, k⟩
      · injection e with e
        subst e
        obtain ⟨v, hv, ⟨b, xs, rfl, hb, tw⟩⟩ := pg.2 _ ef
        rw [hv]
        walk_at "rd"
        refine LH.br_eq (b' := false) rfl ?_
        walk_at "rd"
        walk_at "rd"
        refine LH.fldv hp T.cl_House T.na_House__backings rfl ?_
        walk_at "rd"
        refine LH.getv (LH.getI g) hv ?_
        walk_at "rd"
        refine LH.x_listOf (.inl (SqL.of (sF _ _ hb))) fun r H1 f1 e1 g1 => ?_
        exact k r H1 _ f1 e1 g1 tw
      · rw [pg.1 (k1 i rfl)]
        walk_at "rd"
        refine LH.br_eq (b' := true) rfl ?_
        walk_at "rd"
        exact ⟨by show 1 ≤ sizeLine; decide, k⟩
    | _ =>
      refine LH.br_nd (fun _ => ?_) (fun c => absurd c (by decide))
      walk_at "rd"
      rcases k with ⟨j, ws, e, _⟩ | ⟨k1, k⟩
      · cases e
      · exact ⟨by show 1 ≤ sizeLine; decide, k⟩
end
end K6
namespace K6
open PySem L2 LM HM
local macro_rules | `(tactic| walk_at "rd1") => `(tactic| first
  | with_reducible refine LH.x_seq ?_
  | with_reducible refine LH.x_asg ?_
  | with_reducible refine LH.x_cons ?_
  | with_reducible refine LH.x_var (by with_unfolding_all exact rfl) ?_
  | with_reducible refine LH.x_c ?_
  | with_reducible refine LH.x_op ?_
  | with_reducible refine LH.x_gname ?_
  | with_reducible refine LH.x_nil ?_
  | with_reducible refine LH.x_I0 ?_
  | ((with_reducible refine LH.x_I ?k1 ?_); (case k1 => first | exact (by decide) | exact ⟨by decide, by decide⟩ | exact ⟨by decide, by decide, by decide⟩ | exact .inl ⟨by decide, by decide⟩ | exact .inr ⟨by decide, by decide⟩ | exact .inr ⟨by omega, by omega⟩ | exact .inl ⟨by omega, by omega⟩ | exact (by omega)))
  | with_reducible refine LH.x_ifS ?_
  | with_reducible refine LH.x_test ?_
  | with_reducible refine LH.x_tB ?_
  | with_reducible refine LH.bx ?_
  | with_reducible refine LH.x_and ?_
  | with_reducible refine LH.x_or ?_
  | with_reducible refine LH.x_not ?_
  | with_reducible refine LH.x_ret ?_
  | with_reducible refine LH.x_call ?_
  | with_reducible refine LH.x_cb ?_
  | with_reducible refine LH.x_lst ?_
  | with_reducible refine LH.x_tup ?_
  | with_reducible refine LH.x_bm ?_
  | with_reducible refine LH.x_drop ?_
  | with_reducible refine LH.x_next ?_
  | with_reducible refine LH.x_cont ?_
  | with_reducible refine LH.x_un ?_
  | with_reducible refine LH.x_U ?_
  | with_reducible refine LH.x_eq (by with_unfolding_all exact rfl) ?_
  | with_reducible refine LH.x_ne (by with_unfolding_all exact rfl) ?_
  | with_reducible refine LH.x_andV ?_
  | with_reducible refine LH.x_orV ?_
  | with_reducible refine LH.x_notV ?_
  | with_reducible refine LH.band ?_
  | with_reducible refine LH.bor ?_
  | with_reducible refine LH.x_if ?_
  | with_reducible refine LH.x_chain ?_
  | with_reducible refine LH.chk ?_
  | with_reducible refine LH.x_callS ?_
  | with_reducible refine LH.x_callE ?_
  | with_reducible refine LH.x_callV ?_
  | with_reducible refine LH.x_lrg ?_
  | with_reducible refine LH.x_lcS ?_
  | with_reducible refine LH.x_lcR1 ?_
  | with_reducible refine LH.x_forR1 ?_
  | with_reducible refine LH.x_forR3 ?_
  | with_reducible refine LH.strv ?_
  | with_reducible refine LH.x_yes ?_
  | with_reducible refine LH.x_sl ?_
  | with_reducible refine LH.x_noPart ?_
  | with_reducible refine LH.x_part ?_
  | with_reducible refine LH.pav ?_
  | with_reducible refine LH.x_jnv ?_
  | with_reducible refine LH.x_join ?_
  | with_reducible refine LH.x_inS ?_
  | with_reducible refine LH.x_niS ?_
  | with_reducible refine LH.x_isB ?_
  | with_reducible refine LH.x_isnB ?_
  | with_reducible refine LH.x_gcons ?_
  | with_reducible refine LH.x_gnil ?_
  | with_reducible refine LH.x_intB ?_
  | with_reducible refine LH.x_orT ?_
  | with_reducible refine LH.x_isTy ?_
  | with_reducible refine LH.x_niTy ?_
  | with_reducible refine LH.x_split ?_
  | with_reducible refine LH.x_spv ?_
  | with_reducible refine LH.x_gsub ?_
  | with_reducible refine LH.x_fmt ?_
  | with_reducible refine LH.x_js0 ?_
  | with_reducible refine LH.x_js ?_
  | with_reducible refine LH.x_rg1 ?_
  | with_reducible refine LH.x_forL ?_
  | with_reducible refine LH.x_abs ?_
  | with_reducible refine LH.x_rg2 ?_
  | with_reducible refine LH.rg1v ?_
  | with_reducible refine LH.rg2v ?_
  | with_reducible refine LH.x_forR2 ?_
  | with_reducible refine LH.x_lenSetG ?_
  | with_reducible refine LH.x_lc ?_
  | with_reducible refine LH.x_fld ?_
  | with_reducible refine LH.x_sfld ?_
  | with_reducible refine LH.x_afld ?_
  | with_reducible refine LH.x_meth ?_
  | with_reducible refine LH.x_make ?_
  | with_reducible refine LH.x_methSl ?_
  | with_reducible refine LH.x_makeSl ?_
  | with_reducible refine LH.x_din ?_
  | with_reducible refine LH.x_dni ?_
  | with_reducible refine LH.x_dget ?_
  | with_reducible refine LH.x_dput ?_
  | with_reducible refine LH.x_dget2 ?_
  | with_reducible refine LH.x_dpop1 ?_
  | with_reducible refine LH.x_litems ?_
  | with_reducible refine LH.x_tru ?_
  | with_reducible refine LH.x_revL ?_
  | with_reducible refine LH.x_dsetT ?_
  | with_reducible refine LH.x_lvals ?_
  | with_reducible refine LH.br_nt ?_
  | with_reducible refine LH.br_nf ?_
  | with_reducible refine LH.br_t ?_
  | with_reducible refine LH.br_f ?_)
local macro_rules | `(tactic| walk_at "rd") => `(tactic| repeat (walk_at "rd1"))
local macro_rules | `(tactic| walk_at "rs1") => `(tactic| first
  | with_reducible refine LH.x_seq ?_
  | with_reducible refine LH.x_cons ?_
  | with_reducible refine LH.x_var (by with_unfolding_all exact rfl) ?_
  | with_reducible refine LH.x_c ?_
  | with_reducible refine LH.x_op ?_
  | with_reducible refine LH.x_gname ?_
  | with_reducible refine LH.x_nil ?_
  | with_reducible refine LH.x_I0 ?_
  | ((with_reducible refine LH.x_I ?k1 ?_); (case k1 => first | exact (by decide) | exact ⟨by decide, by decide⟩ | exact ⟨by decide, by decide, by decide⟩ | exact .inl ⟨by decide, by decide⟩ | exact .inr ⟨by decide, by decide⟩ | exact .inr ⟨by omega, by omega⟩ | exact .inl ⟨by omega, by omega⟩ | exact (by omega)))
  | with_reducible refine LH.x_test ?_
  | with_reducible refine LH.x_tB ?_
  | with_reducible refine LH.bx ?_
  | with_reducible refine LH.x_and ?_
  | with_reducible refine LH.x_or ?_
  | with_reducible refine LH.x_not ?_
  | with_reducible refine LH.x_call ?_
  | with_reducible refine LH.x_cb ?_
  | with_reducible refine LH.x_lst ?_
  | with_reducible refine LH.x_tup ?_
  | with_reducible refine LH.x_bm ?_
  | with_reducible refine LH.x_next ?_
  | with_reducible refine LH.x_cont ?_
  | with_reducible refine LH.x_un ?_
  | with_reducible refine LH.x_U ?_
  | with_reducible refine LH.x_eq (by with_unfolding_all exact rfl) ?_
  | with_reducible refine LH.x_ne (by with_unfolding_all exact rfl) ?_
  | with_reducible refine LH.x_andV ?_
  | with_reducible refine LH.x_orV ?_
  | with_reducible refine LH.x_notV ?_
  | with_reducible refine LH.band ?_
  | with_reducible refine LH.bor ?_
  | with_reducible refine LH.x_if ?_
  | with_reducible refine LH.x_chain ?_
  | with_reducible refine LH.chk ?_
  | with_reducible refine LH.x_callS ?_
  | with_reducible refine LH.x_callE ?_
  | with_reducible refine LH.x_callV ?_
  | with_reducible refine LH.x_lrg ?_
  | with_reducible refine LH.x_lcS ?_
  | with_reducible refine LH.x_lcR1 ?_
  | with_reducible refine LH.strv ?_
  | with_reducible refine LH.x_yes ?_
  | with_reducible refine LH.x_sl ?_
  | with_reducible refine LH.x_noPart ?_
  | with_reducible refine LH.x_part ?_
  | with_reducible refine LH.pav ?_
  | with_reducible refine LH.x_jnv ?_
  | with_reducible refine LH.x_join ?_
  | with_reducible refine LH.x_inS ?_
  | with_reducible refine LH.x_niS ?_
  | with_reducible refine LH.x_isB ?_
  | with_reducible refine LH.x_isnB ?_
  | with_reducible refine LH.x_gcons ?_
  | with_reducible refine LH.x_gnil ?_
  | with_reducible refine LH.x_intB ?_
  | with_reducible refine LH.x_orT ?_
  | with_reducible refine LH.x_isTy ?_
  | with_reducible refine LH.x_niTy ?_
  | with_reducible refine LH.x_split ?_
  | with_reducible refine LH.x_spv ?_
  | with_reducible refine LH.x_gsub ?_
  | with_reducible refine LH.x_fmt ?_
  | with_reducible refine LH.x_js0 ?_
  | with_reducible refine LH.x_js ?_
  | with_reducible refine LH.x_rg1 ?_
  | with_reducible refine LH.x_abs ?_
  | with_reducible refine LH.x_rg2 ?_
  | with_reducible refine LH.rg1v ?_
  | with_reducible refine LH.rg2v ?_
  | with_reducible refine LH.x_lenSetG ?_
  | with_reducible refine LH.x_lc ?_
  | with_reducible refine LH.x_fld ?_
  | with_reducible refine LH.x_sfld ?_
  | with_reducible refine LH.x_afld ?_
  | with_reducible refine LH.x_meth ?_
  | with_reducible refine LH.x_make ?_
  | with_reducible refine LH.x_methSl ?_
  | with_reducible refine LH.x_makeSl ?_
  | with_reducible refine LH.x_din ?_
  | with_reducible refine LH.x_dni ?_
  | with_reducible refine LH.x_dget ?_
  | with_reducible refine LH.x_dput ?_
  | with_reducible refine LH.x_dget2 ?_
  | with_reducible refine LH.x_dpop1 ?_
  | with_reducible refine LH.x_litems ?_
  | with_reducible refine LH.x_tru ?_
  | with_reducible refine LH.x_revL ?_
  | with_reducible refine LH.x_dsetT ?_
  | with_reducible refine LH.x_lvals ?_
  | with_reducible refine LH.br_nt ?_
  | with_reducible refine LH.br_nf ?_
  | with_reducible refine LH.br_t ?_
  | with_reducible refine LH.br_f ?_)
local macro_rules | `(tactic| walk_at "rs") => `(tactic| repeat (walk_at "rs1"))

section
variable {P : Program} {w : World} {K : PySem.W.Frag} {mg : Str → Option Value} {base : Heap} {a : Ad}
def spAt (K : PySem.W.Frag) : Sp := fun vs H Q _ => ∃ (p : Addr) (ns : List Int) (k : Int), vs = [.ref p, .int k] ∧ SqL K H p (ns.map V.int) ∧ 0 ≤ k ∧ ∀ z, Q (.int z) H
theorem ok__law_at (T : Txt K mg a) : FnOk P w K mg base CX0 1 a._law_at a.d__law_at ["_law_script", "_law_k"] (spAt K) := by
  refine T.F__law_at.ok sc__law_at (fun vs H Q E h => ?_) (fun cdv A outer s H vs Q E hr h => ?_)
  · obtain ⟨p, ns, k, rfl, _⟩ := h
    rfl
  · obtain ⟨p, ns, i, rfl, hp, h0, k⟩ := h
    refine ⟨_, (pss_cons (ps_if (pt_cmpR op_lt (pv 1) (pe_callB (r := LH.rLen K) LH.call_len rfl T.n_len (by decide +kernel) (pa_cons (pv 0) pa_nil)) (nomark _))
    (pss_one (ps_ret (pe_ix (r := rIxL K) ix_list (pv 0) (pv 1) (fun _ _ => rfl))))
    pss_nil)
  (pss_one (ps_ret pe_int))), ?_⟩
    walk_at "rd"
    refine LH.x_lenL hp ?_
    walk_at "rd"
    refine LH.br_d (fun c => ?_) (fun c => ?_)
    · walk_at "rd"
      obtain ⟨j, rfl⟩ : ∃ j : Nat, i = (j : Int) := ⟨i.toNat, by omega⟩
      have hj : j < (ns.map V.int).length := by omega
      refine LH.x_ixL hp (atI_nat (List.getElem?_eq_getElem hj)) ?_
      walk_at "rd"
      rw [List.getElem_map]
      exact k _
    · walk_at "rd"
      exact k _
def spLRow : Sp := fun vs H Q _ => ∃ b k : Int, vs = [.int b, .int k] ∧ ∀ H', Same H H' → Q (.str (rowF b k)) H'
theorem ok__law_row (T : Txt K mg a) : FnOk P w K mg base CX0 1 a._law_row a.d__law_row ["_law_base", "_law_k"] spLRow := by
  refine T.F__law_row.ok sc__law_row (fun vs H Q E h => ?_) (fun cdv A outer s H vs Q E hr h => ?_)
  · obtain ⟨i, j, rfl, _⟩ := h
    rfl
  · obtain ⟨b, i, rfl, k⟩ := h
    refine ⟨_, (pss_cons (ps_set (i := 2) sc__law_row.nd rfl (Or.inr rfl) pe_str)
  (pss_cons (ps_set (i := 3) sc__law_row.nd rfl (Or.inr rfl) (pe_op op_add (pv 0) (pe_op op_mul (pe_op op_mul pe_int (pv 1)) (pe_op op_mod (pv 0) pe_int))))
  (pss_cons (ps_set (i := 4) sc__law_row.nd rfl (Or.inl rfl) (pe_op op_mod (pe_op op_fdiv (pv 3) pe_int) pe_int))
  (pss_cons (ps_set (i := 5) sc__law_row.nd rfl (Or.inl rfl) (LH.pe_joinN pe_str (pe_lc (own := [("_law_j", 6)]) (g := gName 6) (tt := tYes) rfl sc__law_row.nd (pi_range1 rfl T.n_range (pa_cons (pv 4) pa_nil)) (blkOk_by (N := N__law_row) (sc := defScope s__law_row) (by decide +kernel)) (fun _ _ _ _ _ => pg_name (i := 6) sc__law_row.nd rfl (Or.inl rfl)) (fun _ _ _ _ _ => pts_nil) (fun _ _ _ _ _ => (pe_ix ix_str (pv 2) (pe_op op_mod (pe_op op_add (pv 3) (pe_op op_mul (pe_op op_mul pe_int (pv 6)) (pe_op op_add pe_int (pe_op op_mod (pv 3) pe_int)))) pe_int) (fun _ _ => rfl))))))
  (pss_cons (ps_set (i := 7) sc__law_row.nd rfl (Or.inl rfl) (pv 4))
  (pss_cons (ps_if (pt_cmpR op_eq (pe_op op_mod (pv 0) pe_int) pe_int (nomark _))
    (pss_one (ps_set (i := 7) sc__law_row.nd rfl (Or.inl rfl) (pe_op op_modN (pe_op op_fdiv (pv 0) pe_int) (pe_op op_add (pv 4) pe_int))))
    pss_nil)
  (pss_cons (ps_if (pt_cmpR op_eq (pe_op op_mod (pv 0) pe_int) pe_int (nomark _))
    (pss_one (ps_ret (pe_ix (r := rIxL K) ix_list (pe_lst (pa_cons pe_str (pa_cons pe_str (pa_cons pe_str (pa_cons pe_str pa_nil))))) (pe_op op_mod (pv 1) pe_int) (fun _ _ => rfl))))
    pss_nil)
  (pss_one (ps_ret (pe_op LH.op_addS (pe_op LH.op_addS (pe_slice sl_str (pv 5) po_none (po_some (pv 7))) (pe_ix ix_str pe_str (pe_op op_mod (pv 1) pe_int) (fun _ _ => rfl))) (pe_slice sl_str (pv 5) (po_some (pv 7)) po_none))))))))))), ?_⟩
    walk_at "rd"
    have ht : b + 31 * i * (b % 2) = tOf b i := rfl
    rw [ht, nOf_eq]
    have n8 := nOf_lt b i
    refine LH.rn1v (by omega) (by omega) ?_
    refine LH.lc_R (by omega) (fun _ => true) (letV (tOf b i)) (fun _ => rfl) ?_ ?_ fun p1 H1 f1 e1 g1 => ?_
    · intro x hx H3 e3 Q3 q3
      walk_at "rd"
      exact q3 _ (Same.refl _)
    · intro x hx _ H3 e3 Q3 q3
      obtain ⟨j, _, rfl⟩ := List.mem_map.mp hx
      walk_at "rd"
      obtain ⟨c, h1, _, h2⟩ := let_at (tOf b i + 5 * (0 + (j : Int)) * (1 + tOf b i % 3))
      refine LH.x_ixS (by decide +kernel) h1 ?_
      have q4 := q3 H3 (Same.refl _)
      have e4 : letV (tOf b i) (V.int (0 + (j : Int))) = V.str ⟨#[c]⟩ := by rw [h2]; rfl
      rw [e4] at q4
      exact q4
    walk_at "rd"
    have hI : ((nOf b i : Nat) : Int).toNat = nOf b i := Int.toNat_natCast _
    rw [hI, lets] at g1
    have el : (List.range (nOf b i)).map (letF (tOf b i)) = tailOf b i := rfl
    have e0 : (Str.ofString "").length = 0 := rfl
    refine LH.x_jnw (SqL.of g1) (by rw [lens1, List.length_range, e0, Nat.mul_zero]; omega) ?_
    rw [join_signs, el]
    have tl := tail_len b i
    have al := atOf_le b i
    have sz : ((tailOf b i).toArray : Array Nat).size ≤ 100000 := by rw [List.size_toArray]; omega
    walk_at "rs"
    refine LH.x_asg ?_
    walk_at "rs"
    refine LH.cutS (fun σ' H' => σ' = [some (.int b), some (.int i), some (.str "abcdefghijklmnopqrstuvwxyz"), some (.int (tOf b i)), some (.int (nOf b i)), some (.str ⟨(tailOf b i).toArray⟩), none, some (.int (atOf b i))] ∧ H' = H1) (fun N hN => ?_) ?_
    · walk_at "rd"
      refine LH.br_d (fun c => ?_) (fun c => ?_)
      · walk_at "rd"
        have c : b % 2 = 0 := by injection c
        rw [atOf_even c]
        exact hN _ _ ⟨rfl, rfl⟩
      · walk_at "rd"
        have c : ¬ b % 2 = 0 := fun e => c (congrArg V.int e)
        exact hN _ _ ⟨by rw [atOf_odd c]; rfl, rfl⟩
    rintro σ' H' ⟨rfl, rfl⟩
    walk_at "rd"
    refine LH.br_d (fun c => ?_) (fun c => ?_)
    · walk_at "rd"
      refine LH.newl (LH.small rfl) fun p2 H2 f2 e2 g2 => ?_
      walk_at "rd"
      refine LH.x_ixL (SqL.of g2) (word4_at i).1 ?_
      have e : word4 i = rowF b i := by
        unfold rowF
        rw [if_pos (by injection c)]
      rw [e]
      exact k _ (e1.trans e2)
    · have c : ¬ b % 9 = 4 := fun e => c (congrArg V.int e)
      walk_at "rd"
      refine LH.x_slS sz ?_
      walk_at "rd"
      refine LH.x_ixS (by decide +kernel) (kq_at i).1 ?_
      refine LH.x_addS (by rw [cut_lo]; simp [Str.length]; omega) ?_
      walk_at "rd"
      refine LH.x_slS sz ?_
      refine LH.x_addS (by rw [cut_lo, cut_hi]; show (_ ++ _ : Array Nat).size + _ ≤ 100000; simp [Str.length]; omega) ?_
      rw [rowF_cut c]
      exact k _ e1
def spEn : Sp := fun vs H Q _ => ∃ c : Int, vs = [.int c] ∧ 1 ≤ c ∧ c ≤ 12 ∧ Q (.int (en c)) H
theorem ok__law_enough (T : Txt K mg a) : FnOk P w K mg base CX0 1 a._law_enough a.d__law_enough ["_law_count"] spEn := by
  refine T.F__law_enough.ok sc__law_enough (fun vs H Q E h => ?_) (fun cdv A outer s H vs Q E hr h => ?_)
  · obtain ⟨c, rfl, _⟩ := h
    rfl
  · obtain ⟨c, rfl, c1, c2, k⟩ := h
    refine ⟨_, (pss_cons (ps_for PassesOwn.never rfl (pi_range2 rfl T.n_range (pa_cons pe_int (pa_cons (pe_op op_add (pv 0) pe_int) pa_nil))) (pg_name (i := 1) sc__law_enough.nd rfl (Or.inl rfl))
    (pss_one (ps_if (PW.pt (pw_and (pt_cmpR op_gt (pe_op op_mul pe_int (pe_op op_sub (pe_op op_mul pe_int (pv 1)) (pv 0))) pe_int (nomark _)) (pw_and1 (pt_cmpR op_gt (pe_op op_sub (pe_op op_mul pe_int (pv 1)) (pv 0)) (pe_op op_fdiv (pe_op op_sub (pv 0) pe_int) pe_int) (nomark _)))))
      (pss_one (ps_ret (pv 1)))
      pss_nil)))
  (pss_one (ps_ret (pv 0)))), ?_⟩
    walk_at "rd"
    refine LH.rn2v ⟨by omega, by omega⟩ ⟨by omega, by omega⟩ ?_
    refine LH.for_R1 (fun i σ H' => (∃ o, σ = [some (.int c), o]) ∧ H' = H ∧ (i : Int) < en c) ⟨⟨_, rfl⟩, rfl, by unfold en; omega⟩ ?_ ?_
    · rintro i σ H0 hi ⟨⟨o, rfl⟩, rfl, hlt⟩
      unfold en at hlt k
      walk_at "rd"
      refine LH.br_d (fun h1 => ?_) (fun h1 => ?_)
      · walk_at "rd"
        refine LH.br_d (fun h2 => ?_) (fun h2 => ?_)
        · walk_at "rd"
          have e : 1 + (i : Int) = (c + (c - 1) / 3) / 2 + 1 := by omega
          rw [e]
          exact k
        · walk_at "rd"
          exact ⟨⟨_, rfl⟩, rfl, by unfold en; omega⟩
      · walk_at "rd"
        exact ⟨⟨_, rfl⟩, rfl, by unfold en; omega⟩
    · rintro σ H0 ⟨⟨o, rfl⟩, rfl, hlt⟩
      exfalso
      unfold en at hlt
      omega
/-! ### the law's own house: a dict of what it knows -/
structure OA where
  o : Addr
  kn : Addr
  ro : Addr
  ba : Addr
  nm : Addr
def OA.S (a : OA) : List Addr := [a.o, a.kn, a.ro, a.ba, a.nm]
def ownK (a : OA) (c own : Int) : List (Key × V) := [(.inr "count", .int c), (.inr "house", .int own), (.inr "wanted", .int (en c)), (.inr "known", .ref a.kn), (.inr "rows", .ref a.ro), (.inr "backings", .ref a.ba), (.inr "names", .ref a.nm)]
/-- things and the words that they are -/
def Tv (F : Hp) (l : List VW) : Prop := ∀ p ∈ l, WT F p.1 p.2
theorem Tv.up {F F' : Hp} {l : List VW} (e : Same F F') (h : Tv F l) : Tv F' l := fun p hp => (h p hp).up e
theorem Tv.wp {K : PySem.W.Frag} {F : Hp} {l : List VW} (h : Tv F l) : WP K F l := fun p hp => (h p hp).wv
def fil (f : Wrd → Bool) (l : List VW) : List VW := l.filter fun p => f p.2
def mineF (n own : Int) (w : Wrd) : Bool := decide (w.k = ("mark" : Str)) && (decide (w.n = n) && decide (w.h = own))
def sameF (u w : Wrd) : Bool := decide (w.pl = u.pl)
theorem Tv.fil {F : Hp} {l : List VW} {f : Wrd → Bool} (h : Tv F l) : Tv F (fil f l) := fun p hp => h p (List.mem_filter.mp hp).1
structure OwnAt (F H : Hp) (a : OA) (l : List VW) (st : HS) : Prop where
  ob : H a.o = some (.dK (ownK a st.c st.own))
  kn : H a.kn = some (.lst (l.map (·.1)))
  tv : Tv F l
  lk : l.map (·.2) = st.known
  ro : PRo H a.ro st.rows
  ba : PBa F H a.ba st.backs
  nm : ∃ ns, H a.nm = some (.lst ns) ∧ Paired (Nm F) ns st.named
  nd : a.S.Nodup
  go : Good st
  mi : Mine st
theorem dats {l : List VW} {st : HS} (e : l.map (·.2) = st.known) : (l.map fun p => p.2.dat) = st.known.map Wrd.dat := by rw [← e, List.map_map]; rfl
theorem any_dat (l : List Wrd) (u : Wrd) : ((l.map Wrd.dat).any fun z => PyData.eqv z u.dat) = decide (u ∈ l) := by
  induction l with
  | nil => rfl
  | cons w l ih =>
    rw [List.map_cons, List.any_cons, ih, dat_eqv]
    by_cases c : w = u
    · simp [c]
    · have : ¬ u = w := fun q => c q.symm
      simp [c, this]
theorem lay_words {l : List Wrd} (h : ∀ w ∈ l, w.Ok) : Lay 3 (.list (l.map Wrd.dat)) := lay_list fun d hd => by
  obtain ⟨w, hw, rfl⟩ := List.mem_map.mp hd
  exact Wrd.lay (h w hw)
def keep (f : Wrd → Bool) (l : List VW) : List (Option V) := l.map fun p => if f p.2 = true then some p.1 else none
theorem keep_len {f : Wrd → Bool} {l : List VW} : (keep f l).length = (l.map (·.1)).length := by unfold keep; rw [List.length_map, List.length_map]
theorem find_kept (l : List VW) (f : Wrd → Bool) : (keep f l).filterMap id = (fil f l).map (·.1) := by
  unfold keep fil
  induction l with
  | nil => rfl
  | cons p l ih =>
    rw [List.map_cons, List.filterMap_cons]
    cases e : f p.2 with
    | true =>
      rw [List.filter_cons_of_pos (by exact e)]
      simp [ih]
    | false =>
      rw [List.filter_cons_of_neg (by simp [e])]
      simp [ih]
theorem kept_snd (l : List VW) (f : Wrd → Bool) : (fil f l).map (·.2) = (l.map (·.2)).filter f := by
  unfold fil
  induction l with
  | nil => rfl
  | cons p l ih =>
    cases e : f p.2 with
    | true => rw [List.filter_cons_of_pos (by exact e), List.map_cons, List.map_cons, List.filter_cons_of_pos e, ih]
    | false => rw [List.filter_cons_of_neg (by simp [e]), List.map_cons, List.filter_cons_of_neg (by simp [e]), ih]
theorem OwnAt.to {F F' H H' : Hp} {a : OA} {l : List VW} {st : HS} (h : OwnAt F H a l st) (f : Same F F') (e : ∀ b o, b ∈ a.S → H b = some o → H' b = some o) : OwnAt F' H' a l st :=
  ⟨e _ _ (by simp [OA.S]) h.ob, e _ _ (by simp [OA.S]) h.kn, h.tv.up f, h.lk, h.ro.to fun o q => e _ o (by simp [OA.S]) q, h.ba.to f fun o q => e _ o (by simp [OA.S]) q, let ⟨ns, h1, h2⟩ := h.nm; ⟨ns, e _ _ (by simp [OA.S]) h1, LH.Paired.imp (fun _ _ q => q.up f) h2⟩, h.nd, h.go, h.mi⟩
def spHeard : Sp := fun vs H Q _ => ∃ (oa : OA) (l : List VW) (st : HS) (x : V) (u : Wrd) (M : List Addr), vs = [.ref oa.o, x] ∧ OwnAt (LH.Fr M H) H oa l st ∧ (∀ b ∈ oa.S, b ∈ M) ∧ (∀ b ∈ M, ∃ o, H b = some o) ∧ WT (LH.Fr M H) x u ∧ Fit st u ∧ ¬ (u.k = "mark" ∧ u.h = st.own) ∧ st.size ≤ 400 ∧
  ∀ H' r xs l', LH.Ks oa.S H H' → OwnAt (LH.Fr M H') H' oa l' (st.hear u) → H r = none → H' r = some (.lst xs) → TW (LH.Fr M H') xs (st.hearT u) → Q (.ref r) H'
theorem kept_get {l : List VW} {f : Wrd → Bool} {i : Nat} {x : V} {o : Option V} (h1 : (l.map (·.1))[i]? = some x) (h2 : (keep f l)[i]? = some o) : ∃ p ∈ l, p.1 = x ∧ o = if f p.2 = true then some p.1 else none := by
  unfold keep at h2
  rw [List.getElem?_map] at h1 h2
  cases e : l[i]? with
  | none => rw [e] at h1; cases h1
  | some p =>
    rw [e] at h1 h2
    injection h1 with h1
    injection h2 with h2
    exact ⟨p, List.mem_of_getElem? e, h1, h2.symm⟩
theorem eqv_nil (ds : List PyData) : PyData.eqv (.list ds) (.list []) = ds.isEmpty := by
  cases ds <;> simp [PyData.eqv, PyData.eqvAll]
noncomputable def numOf (H : Hp) : V → Int
  | .ref t => match H t with | some (.tup [.int h, _]) => h | _ => 0
  | _ => 0
noncomputable def thingOf (H : Hp) : V → V
  | .ref t => match H t with | some (.tup [_, y]) => y | _ => .non
  | _ => .non
theorem numOf_tup {H : Hp} {t : Addr} {i : Int} {y : V} (h : H t = some (.tup [.int i, y])) : numOf H (.ref t) = i ∧ thingOf H (.ref t) = y := by
  constructor
  · simp [numOf, h]
  · simp [thingOf, h]
theorem paired_sorted {G : V → Wrd → Prop} {v : V → V} {f : V → Int} {g : Int → Option Wrd} : ∀ zs : List V, (∀ z ∈ zs, ∃ w, g (f z) = some w ∧ G (v z) w) → Paired G (zs.map v) ((zs.map f).filterMap g)
  | [], _ => .nil
  | z :: zs, h => by
    obtain ⟨w, h1, h2⟩ := h z (List.mem_cons_self ..)
    rw [List.map_cons, List.map_cons, List.filterMap_cons, h1]
    exact .cons h2 (paired_sorted zs fun z hz => h z (List.mem_cons_of_mem _ hz))
noncomputable def firstOf (H : Hp) : V → V
  | .ref t => match H t with | some (.tup (y :: _)) => y | _ => .non
  | _ => .non
theorem firstOf_tup {H : Hp} {t : Addr} {y : V} {r : List V} (h : H t = some (.tup (y :: r))) : firstOf H (.ref t) = y := by simp [firstOf, h]
theorem name_more {st : HS} {w : Wrd} : (st.name w).known = st.known ∧ (st.name w).backs = st.backs ∧ (st.name w).marked = st.marked := by
  unfold HS.name
  split <;> exact ⟨rfl, rfl, rfl⟩
theorem firsts {F H : Hp} (s : Same F H) : ∀ {ns : List V} {l : List (Int × Wrd × Wrd)}, Paired (Nm F) ns l → ns.map (firstOf H) = (l.map (·.1)).map V.int
  | _, _, .nil => rfl
  | _, _, .cons q r => by
    obtain ⟨t, v1, v2, rfl, ht, _⟩ := q
    rw [List.map_cons, List.map_cons, List.map_cons, firsts s r, firstOf_tup (s _ _ ht)]
end
end K6
namespace K6
open PySem L2 LM HM
local macro_rules | `(tactic| walk_at "rd1") => `(tactic| first
  | with_reducible refine LH.x_seq ?_
  | with_reducible refine LH.x_asg ?_
  | with_reducible refine LH.x_cons ?_
  | with_reducible refine LH.x_var (by with_unfolding_all exact rfl) ?_
  | with_reducible refine LH.x_c ?_
  | with_reducible refine LH.x_op ?_
  | with_reducible refine LH.x_gname ?_
  | with_reducible refine LH.x_nil ?_
  | with_reducible refine LH.x_I0 ?_
  | ((with_reducible refine LH.x_I ?k1 ?_); (case k1 => first | exact (by decide) | exact ⟨by decide, by decide⟩ | exact ⟨by decide, by decide, by decide⟩ | exact .inl ⟨by decide, by decide⟩ | exact .inr ⟨by decide, by decide⟩ | exact .inr ⟨by omega, by omega⟩ | exact .inl ⟨by omega, by omega⟩ | exact (by omega)))
  | with_reducible refine LH.x_ifS ?_
  | with_reducible refine LH.x_test ?_
  | with_reducible refine LH.x_tB ?_
  | with_reducible refine LH.bx ?_
  | with_reducible refine LH.x_and ?_
  | with_reducible refine LH.x_or ?_
  | with_reducible refine LH.x_not ?_
  | with_reducible refine LH.x_ret ?_
  | with_reducible refine LH.x_call ?_
  | with_reducible refine LH.x_cb ?_
  | with_reducible refine LH.x_lst ?_
  | with_reducible refine LH.x_tup ?_
  | with_reducible refine LH.x_bm ?_
  | with_reducible refine LH.x_drop ?_
  | with_reducible refine LH.x_next ?_
  | with_reducible refine LH.x_cont ?_
  | with_reducible refine LH.x_un ?_
  | with_reducible refine LH.x_U ?_
  | with_reducible refine LH.x_eq (by with_unfolding_all exact rfl) ?_
  | with_reducible refine LH.x_ne (by with_unfolding_all exact rfl) ?_
  | with_reducible refine LH.x_andV ?_
  | with_reducible refine LH.x_orV ?_
  | with_reducible refine LH.x_notV ?_
  | with_reducible refine LH.band ?_
  | with_reducible refine LH.bor ?_
  | with_reducible refine LH.x_if ?_
  | with_reducible refine LH.x_chain ?_
  | with_reducible refine LH.chk ?_
  | with_reducible refine LH.x_callS ?_
  | with_reducible refine LH.x_callE ?_
  | with_reducible refine LH.x_callV ?_
  | with_reducible refine LH.x_lrg ?_
  | with_reducible refine LH.x_lcS ?_
  | with_reducible refine LH.x_lcR1 ?_
  | with_reducible refine LH.x_forR1 ?_
  | with_reducible refine LH.x_forR3 ?_
  | with_reducible refine LH.strv ?_
  | with_reducible refine LH.x_yes ?_
  | with_reducible refine LH.x_sl ?_
  | with_reducible refine LH.x_noPart ?_
  | with_reducible refine LH.x_part ?_
  | with_reducible refine LH.pav ?_
  | with_reducible refine LH.x_jnv ?_
  | with_reducible refine LH.x_join ?_
  | with_reducible refine LH.x_inS ?_
  | with_reducible refine LH.x_niS ?_
  | with_reducible refine LH.x_isB ?_
  | with_reducible refine LH.x_isnB ?_
  | with_reducible refine LH.x_gcons ?_
  | with_reducible refine LH.x_gnil ?_
  | with_reducible refine LH.x_intB ?_
  | with_reducible refine LH.x_orT ?_
  | with_reducible refine LH.x_isTy ?_
  | with_reducible refine LH.x_niTy ?_
  | with_reducible refine LH.x_split ?_
  | with_reducible refine LH.x_spv ?_
  | with_reducible refine LH.x_gsub ?_
  | with_reducible refine LH.x_fmt ?_
  | with_reducible refine LH.x_js0 ?_
  | with_reducible refine LH.x_js ?_
  | with_reducible refine LH.x_rg1 ?_
  | with_reducible refine LH.x_forL ?_
  | with_reducible refine LH.x_abs ?_
  | with_reducible refine LH.x_rg2 ?_
  | with_reducible refine LH.rg1v ?_
  | with_reducible refine LH.rg2v ?_
  | with_reducible refine LH.x_forR2 ?_
  | with_reducible refine LH.x_lenSetG ?_
  | with_reducible refine LH.x_lc ?_
  | with_reducible refine LH.x_fld ?_
  | with_reducible refine LH.x_sfld ?_
  | with_reducible refine LH.x_afld ?_
  | with_reducible refine LH.x_meth ?_
  | with_reducible refine LH.x_make ?_
  | with_reducible refine LH.x_methSl ?_
  | with_reducible refine LH.x_makeSl ?_
  | with_reducible refine LH.x_din ?_
  | with_reducible refine LH.x_dni ?_
  | with_reducible refine LH.x_dget ?_
  | with_reducible refine LH.x_dput ?_
  | with_reducible refine LH.x_dget2 ?_
  | with_reducible refine LH.x_dpop1 ?_
  | with_reducible refine LH.x_litems ?_
  | with_reducible refine LH.x_tru ?_
  | with_reducible refine LH.x_revL ?_
  | with_reducible refine LH.x_dsetT ?_
  | with_reducible refine LH.x_lvals ?_
  | with_reducible refine LH.br_nt ?_
  | with_reducible refine LH.br_nf ?_
  | with_reducible refine LH.br_t ?_
  | with_reducible refine LH.br_f ?_)
local macro_rules | `(tactic| walk_at "rd") => `(tactic| repeat (walk_at "rd1"))
local macro_rules | `(tactic| walk_at "rs1") => `(tactic| first
  | with_reducible refine LH.x_seq ?_
  | with_reducible refine LH.x_cons ?_
  | with_reducible refine LH.x_var (by with_unfolding_all exact rfl) ?_
  | with_reducible refine LH.x_c ?_
  | with_reducible refine LH.x_op ?_
  | with_reducible refine LH.x_gname ?_
  | with_reducible refine LH.x_nil ?_
  | with_reducible refine LH.x_I0 ?_
  | ((with_reducible refine LH.x_I ?k1 ?_); (case k1 => first | exact (by decide) | exact ⟨by decide, by decide⟩ | exact ⟨by decide, by decide, by decide⟩ | exact .inl ⟨by decide, by decide⟩ | exact .inr ⟨by decide, by decide⟩ | exact .inr ⟨by omega, by omega⟩ | exact .inl ⟨by omega, by omega⟩ | exact (by omega)))
  | with_reducible refine LH.x_test ?_
  | with_reducible refine LH.x_tB ?_
  | with_reducible refine LH.bx ?_
  | with_reducible refine LH.x_and ?_
  | with_reducible refine LH.x_or ?_
  | with_reducible refine LH.x_not ?_
  | with_reducible refine LH.x_call ?_
  | with_reducible refine LH.x_cb ?_
  | with_reducible refine LH.x_lst ?_
  | with_reducible refine LH.x_tup ?_
  | with_reducible refine LH.x_bm ?_
  | with_reducible refine LH.x_next ?_
  | with_reducible refine LH.x_cont ?_
  | with_reducible refine LH.x_un ?_
  | with_reducible refine LH.x_U ?_
  | with_reducible refine LH.x_eq (by with_unfolding_all exact rfl) ?_
  | with_reducible refine LH.x_ne (by with_unfolding_all exact rfl) ?_
  | with_reducible refine LH.x_andV ?_
  | with_reducible refine LH.x_orV ?_
  | with_reducible refine LH.x_notV ?_
  | with_reducible refine LH.band ?_
  | with_reducible refine LH.bor ?_
  | with_reducible refine LH.x_if ?_
  | with_reducible refine LH.x_chain ?_
  | with_reducible refine LH.chk ?_
  | with_reducible refine LH.x_callS ?_
  | with_reducible refine LH.x_callE ?_
  | with_reducible refine LH.x_callV ?_
  | with_reducible refine LH.x_lrg ?_
  | with_reducible refine LH.x_lcS ?_
  | with_reducible refine LH.x_lcR1 ?_
  | with_reducible refine LH.strv ?_
  | with_reducible refine LH.x_yes ?_
  | with_reducible refine LH.x_sl ?_
  | with_reducible refine LH.x_noPart ?_
  | with_reducible refine LH.x_part ?_
  | with_reducible refine LH.pav ?_
  | with_reducible refine LH.x_jnv ?_
  | with_reducible refine LH.x_join ?_
  | with_reducible refine LH.x_inS ?_
  | with_reducible refine LH.x_niS ?_
  | with_reducible refine LH.x_isB ?_
  | with_reducible refine LH.x_isnB ?_
  | with_reducible refine LH.x_gcons ?_
  | with_reducible refine LH.x_gnil ?_
  | with_reducible refine LH.x_intB ?_
  | with_reducible refine LH.x_orT ?_
  | with_reducible refine LH.x_isTy ?_
  | with_reducible refine LH.x_niTy ?_
  | with_reducible refine LH.x_split ?_
  | with_reducible refine LH.x_spv ?_
  | with_reducible refine LH.x_gsub ?_
  | with_reducible refine LH.x_fmt ?_
  | with_reducible refine LH.x_js0 ?_
  | with_reducible refine LH.x_js ?_
  | with_reducible refine LH.x_rg1 ?_
  | with_reducible refine LH.x_abs ?_
  | with_reducible refine LH.x_rg2 ?_
  | with_reducible refine LH.rg1v ?_
  | with_reducible refine LH.rg2v ?_
  | with_reducible refine LH.x_lenSetG ?_
  | with_reducible refine LH.x_lc ?_
  | with_reducible refine LH.x_fld ?_
  | with_reducible refine LH.x_sfld ?_
  | with_reducible refine LH.x_afld ?_
  | with_reducible refine LH.x_meth ?_
  | with_reducible refine LH.x_make ?_
  | with_reducible refine LH.x_methSl ?_
  | with_reducible refine LH.x_makeSl ?_
  | with_reducible refine LH.x_din ?_
  | with_reducible refine LH.x_dni ?_
  | with_reducible refine LH.x_dget ?_
  | with_reducible refine LH.x_dput ?_
  | with_reducible refine LH.x_dget2 ?_
  | with_reducible refine LH.x_dpop1 ?_
  | with_reducible refine LH.x_litems ?_
  | with_reducible refine LH.x_tru ?_
  | with_reducible refine LH.x_revL ?_
  | with_reducible refine LH.x_dsetT ?_
  | with_reducible refine LH.x_lvals ?_
  | with_reducible refine LH.br_nt ?_
  | with_reducible refine LH.br_nf ?_
  | with_reducible refine LH.br_t ?_
  | with_reducible refine LH.br_f ?_)
local macro_rules | `(tactic| walk_at "rs") => `(tactic| repeat (walk_at "rs1"))

section
variable {P : Program} {w : World} {K : PySem.W.Frag} {mg : Str → Option Value} {base : Heap} {a : Ad}
theorem ok__law_heard (T : Txt K mg a) : FnOk P w K mg base CX0 1 a._law_heard a.d__law_heard ["_law_own_here", "_law_word_here"] spHeard := by
  refine T.F__law_heard.ok sc__law_heard (fun vs H Q E h => ?_) (fun cdv A outer s H vs Q E hr h => ?_)
  · obtain ⟨oa, l, st, x, u, M, rfl, _⟩ := h
    rfl
  · obtain ⟨oa, l, st, x, u, M, rfl, O, sM, al, ⟨b, rfl, hb⟩, fit, om, sz, k⟩ := h
    obtain ⟨ob, kn, tv, lk, pro, pba, ⟨ns, gnm, pn⟩, nd, go, mi⟩ := id O
    have hb' := LH.fr_le _ _ hb
    have wu : WT (LH.Fr M H) (.ref b) u := ⟨b, rfl, hb⟩
    have bM := (LH.fr_some hb).2
    have wk : ∀ w ∈ st.known, w.Ok := fun w hw => (go.wd w hw).1
    have len : l.length ≤ 400 := by
      have h1 : l.length = st.known.length := by rw [← lk, List.length_map]
      have h2 := sz
      unfold HS.size at h2
      omega
    have n1 : oa.o ∉ [oa.kn, oa.ro, oa.ba, oa.nm] ∧ oa.kn ∉ [oa.ro, oa.ba, oa.nm] ∧ oa.ro ∉ [oa.ba, oa.nm] ∧ oa.ba ≠ oa.nm := by
      have nd := nd
      unfold OA.S at nd
      simp only [List.nodup_cons, List.mem_cons, List.not_mem_nil, or_false, not_or, List.nodup_nil, and_true, not_false_eq_true] at nd ⊢
      exact ⟨nd.1, nd.2.1, nd.2.2.1, nd.2.2.2⟩
    simp only [List.mem_cons, List.not_mem_nil, or_false, not_or] at n1
    have mS : ∀ y, y ∈ [oa.o, oa.kn, oa.ro, oa.ba, oa.nm] → y ∈ M := fun y hy => sM y hy
    refine ⟨_, (pss_cons (ps_if (pt_cmpR (r := rInD K) (op_inD (LH.units65 hr)) (pv 1) (pe_dget (hu_of hr) (pv 0) pe_str (fun _ _ => rfl)) (by rfl))
    (pss_one (ps_ret (pe_lst pa_nil)))
    pss_nil)
  (pss_cons (ps_setLc (i := 2) (own := [("_law_one", 3)]) (g := gName 3) rfl sc__law_heard.nd rfl rfl rfl (pi_list (pe_dget (hu_of hr) (pv 0) pe_str (fun _ _ => rfl))) (blkOk_by (N := N__law_heard) (sc := defScope s__law_heard) (by decide +kernel)) (fun _ _ _ _ _ => pg_name (i := 3) sc__law_heard.nd rfl (Or.inl rfl)) (fun _ _ _ _ _ => (pts_one (PW.pt (pw_and (pt_cmpR op_eq (pe_ix (r := rIxT K) ix_tup (pv 3) pe_int (fun _ _ => rfl)) (pe_ix (r := rIxT K) ix_tup (pv 1) pe_int (fun _ _ => rfl)) (nomark _)) (pw_and (pt_cmpR op_eq (pe_ix (r := rIxT K) ix_tup (pv 3) pe_int (fun _ _ => rfl)) (pe_ix (r := rIxT K) ix_tup (pv 1) pe_int (fun _ _ => rfl)) (nomark _)) (pw_and1 (pt_cmpR op_eq (pe_ix (r := rIxT K) ix_tup (pv 3) pe_int (fun _ _ => rfl)) (pe_ix (r := rIxT K) ix_tup (pv 1) pe_int (fun _ _ => rfl)) (nomark _)))))))) (fun _ _ _ _ _ => (pv 3)))
  (pss_cons (ps_expr (pe_bm PySem.F.plainAttrs_list PySem.F.slot_list_append PySem.F.type_list_append mt_append (pe_dget (hu_of hr) (pv 0) pe_str (fun _ _ => rfl)) (pa_cons (pv 1) pa_nil)))
  (pss_cons (ps_set (i := 4) sc__law_heard.nd rfl (Or.inl rfl) (pe_lst pa_nil))
  (pss_cons (ps_setLc (i := 5) (own := [("_law_one", 3)]) (g := gName 3) rfl sc__law_heard.nd rfl rfl rfl (pi_list (pe_dget (hu_of hr) (pv 0) pe_str (fun _ _ => rfl))) (blkOk_by (N := N__law_heard) (sc := defScope s__law_heard) (by decide +kernel)) (fun _ _ _ _ _ => pg_name (i := 3) sc__law_heard.nd rfl (Or.inl rfl)) (fun _ _ _ _ _ => (pts_one (PW.pt (pw_and (pt_cmpR op_eq (pe_ix (r := rIxT K) ix_tup (pv 3) pe_int (fun _ _ => rfl)) pe_str (nomark _)) (pw_and (pt_cmpR op_eq (pe_ix (r := rIxT K) ix_tup (pv 3) pe_int (fun _ _ => rfl)) (pe_ix (r := rIxT K) ix_tup (pv 1) pe_int (fun _ _ => rfl)) (nomark _)) (pw_and1 (pt_cmpR op_eq (pe_ix (r := rIxT K) ix_tup (pv 3) pe_int (fun _ _ => rfl)) (pe_dget (hu_of hr) (pv 0) pe_str (fun _ _ => rfl)) (nomark _)))))))) (fun _ _ _ _ _ => (pv 3)))
  (pss_cons (ps_if (PW.pt (pw_and (pt_cmpR op_eq (pe_ix (r := rIxT K) ix_tup (pv 1) pe_int (fun _ _ => rfl)) pe_str (nomark _)) (pw_and1 (pt_cmpR (r := rEqD K) (op_eqD hr.units) (pv 5) (pe_lst pa_nil) (nomark _)))))
    (pss_cons (ps_expr (pe_bm PySem.F.plainAttrs_list PySem.F.slot_list_append PySem.F.type_list_append mt_append (pv 4) (pa_cons (pe_tup (pa_cons pe_str (pa_cons (pe_ix (r := rIxT K) ix_tup (pv 1) pe_int (fun _ _ => rfl)) (pa_cons (pe_ix (r := rIxT K) ix_tup (pv 1) pe_int (fun _ _ => rfl)) (pa_cons (pe_dget (hu_of hr) (pv 0) pe_str (fun _ _ => rfl)) pa_nil))))) pa_nil)))
    (pss_one (ps_expr (pe_bm PySem.F.plainAttrs_list PySem.F.slot_list_append PySem.F.type_list_append mt_append (pe_dget (hu_of hr) (pv 0) pe_str (fun _ _ => rfl)) (pa_cons (pe_ix (r := rIxL K) ix_list (pv 4) pe_int (fun _ _ => rfl)) pa_nil)))))
    pss_nil)
  (pss_cons (ps_setLc (i := 6) (own := [("_law_one", 3)]) (g := gName 3) rfl sc__law_heard.nd rfl rfl rfl (pi_list (pe_dget (hu_of hr) (pv 0) pe_str (fun _ _ => rfl))) (blkOk_by (N := N__law_heard) (sc := defScope s__law_heard) (by decide +kernel)) (fun _ _ _ _ _ => pg_name (i := 3) sc__law_heard.nd rfl (Or.inl rfl)) (fun _ _ _ _ _ => (pts_one (PW.pt (pw_and (pt_cmpR op_eq (pe_ix (r := rIxT K) ix_tup (pv 3) pe_int (fun _ _ => rfl)) pe_str (nomark _)) (pw_and (pt_cmpR op_eq (pe_ix (r := rIxT K) ix_tup (pv 3) pe_int (fun _ _ => rfl)) (pe_ix (r := rIxT K) ix_tup (pv 1) pe_int (fun _ _ => rfl)) (nomark _)) (pw_and1 (pt_cmpR op_eq (pe_ix (r := rIxT K) ix_tup (pv 3) pe_int (fun _ _ => rfl)) (pe_ix (r := rIxT K) ix_tup (pv 1) pe_int (fun _ _ => rfl)) (nomark _)))))))) (fun _ _ _ _ _ => (pv 3)))
  (pss_cons (ps_setLc (i := 6) (own := [("_law_pair", 7)]) (g := gName 7) (tt := tYes) rfl sc__law_heard.nd rfl rfl rfl (pi_list (pe_callB (r := LH.rSortedNT K) LH.cr_sortedNT rfl T.n_sorted (by decide +kernel) (pa_cons (pe_lc (own := [("_law_one", 3)]) (g := gName 3) (tt := tYes) rfl sc__law_heard.nd (pi_list (pv 6)) (blkOk_by (N := N__law_heard) (sc := defScope s__law_heard) (by decide +kernel)) (fun _ _ _ _ _ => pg_name (i := 3) sc__law_heard.nd rfl (Or.inl rfl)) (fun _ _ _ _ _ => pts_nil) (fun _ _ _ _ _ => (pe_tup (pa_cons (pe_ix (r := rIxT K) ix_tup (pv 3) pe_int (fun _ _ => rfl)) (pa_cons (pv 3) pa_nil))))) pa_nil))) (blkOk_by (N := N__law_heard) (sc := defScope s__law_heard) (by decide +kernel)) (fun _ _ _ _ _ => pg_name (i := 7) sc__law_heard.nd rfl (Or.inl rfl)) (fun _ _ _ _ _ => pts_nil) (fun _ _ _ _ _ => (pe_ix (r := rIxT K) ix_tup (pv 7) pe_int (fun _ _ => rfl))))
  (pss_cons (ps_if (PW.pt (pw_and (pt_cmp (pc_dnotin (hu_of hr) (pe_ix (r := rIxT K) ix_tup (pv 1) pe_int (fun _ _ => rfl)) (pe_dget (hu_of hr) (pv 0) pe_str (fun _ _ => rfl)))) (pw_and1 (pt_cmpR op_ge (pe_callB (r := LH.rLen K) LH.call_len rfl T.n_len (by decide +kernel) (pa_cons (pv 6) pa_nil)) (pe_dget (hu_of hr) (pv 0) pe_str (fun _ _ => rfl)) (nomark _)))))
    (pss_cons (ps_dput (hu_of hr) (pe_dget (hu_of hr) (pv 0) pe_str (fun _ _ => rfl)) (pe_ix (r := rIxT K) ix_tup (pv 1) pe_int (fun _ _ => rfl)) (pe_ix (r := rIxT K) ix_tup (pv 1) pe_int (fun _ _ => rfl)) rfl)
    (pss_cons (ps_dput (hu_of hr) (pe_dget (hu_of hr) (pv 0) pe_str (fun _ _ => rfl)) (pe_ix (r := rIxT K) ix_tup (pv 1) pe_int (fun _ _ => rfl)) (pv 6) rfl)
    (pss_one (ps_set (i := 4) sc__law_heard.nd rfl (Or.inl rfl) (pe_op (r := LH.rCatS K) LH.op_catS (pv 4) (pv 6))))))
    pss_nil)
  (pss_cons (ps_if (PW.pt (pw_and (pt_cmpR (r := rNeD K) (op_neD hr.units) (pv 2) (pe_lst pa_nil) (nomark _)) (pw_and1 (pt_cmpR (r := rIn K true) op_notIn_seq (pe_ix (r := rIxT K) ix_tup (pv 1) pe_int (fun _ _ => rfl)) (pe_lc (own := [("_law_one", 3)]) (g := gName 3) (tt := tYes) rfl sc__law_heard.nd (pi_list (pe_dget (hu_of hr) (pv 0) pe_str (fun _ _ => rfl))) (blkOk_by (N := N__law_heard) (sc := defScope s__law_heard) (by decide +kernel)) (fun _ _ _ _ _ => pg_name (i := 3) sc__law_heard.nd rfl (Or.inl rfl)) (fun _ _ _ _ _ => pts_nil) (fun _ _ _ _ _ => (pe_ix (r := rIxT K) ix_tup (pv 3) pe_int (fun _ _ => rfl)))) (by rfl)))))
    (pss_cons (ps_expr (pe_bm PySem.F.plainAttrs_list PySem.F.slot_list_append PySem.F.type_list_append mt_append (pe_dget (hu_of hr) (pv 0) pe_str (fun _ _ => rfl)) (pa_cons (pe_tup (pa_cons (pe_ix (r := rIxT K) ix_tup (pv 1) pe_int (fun _ _ => rfl)) (pa_cons (pe_ix (r := rIxL K) ix_list (pv 2) pe_int (fun _ _ => rfl)) (pa_cons (pv 1) pa_nil)))) pa_nil)))
    (pss_one (ps_set (i := 4) sc__law_heard.nd rfl (Or.inl rfl) (pe_op (r := LH.rCatS K) LH.op_catS (pv 4) (pe_lst (pa_cons (pe_ix (r := rIxL K) ix_list (pv 2) pe_int (fun _ _ => rfl)) (pa_cons (pv 1) pa_nil)))))))
    pss_nil)
  (pss_one (ps_ret (pv 4))))))))))))), ?_⟩
    walk_at "rd"
    refine LH.getv (LH.getS ob) rfl ?_
    refine LH.x_inD (d := u.dat) (ds := st.known.map Wrd.dat) (wu.up LH.fr_le).dp (.lst (SqL.of kn) (by rw [← dats lk]; exact (tv.up LH.fr_le).wp.dpA)) (Wrd.lay fit.1).shaped (lay_words wk).shaped ?_
    rw [any_dat]
    walk_at "rd"
    by_cases c : u ∈ st.known
    · rw [decide_eq_true c]
      walk_at "rd"
      refine LH.newl (LH.small rfl) fun r H1 f1 e1 g1 => ?_
      have e2 : st.hear u = st := by unfold HS.hear; rw [if_pos c]
      have e3 : st.hearT u = [] := by unfold HS.hearT; rw [if_pos c]
      exact k H1 r [] l (.of e1) (by rw [e2]; exact O.to (LH.same_fr e1) fun y o _ q => e1 _ _ q) f1 g1 (by rw [e3]; exact .nil)
    rw [decide_eq_false c]
    walk_at "rd"
    -- what stood at its place before
    refine LH.getv (LH.getS ob) rfl ?_
    refine LH.lc_Li (SqL.of kn) (by rw [List.length_map]; omega) (keep (sameF u) l) keep_len (fun _ => rfl) ?_ ?_ fun p1 H1 f1 e1 g1 => ?_
    · intro i y o hy ho Ha ea Q3 q3
      obtain ⟨p, hp, rfl, rfl⟩ := kept_get hy ho
      obtain ⟨t, et, ht⟩ := (tv p hp).up LH.fr_le
      rw [et]
      have ht' := ea _ _ ht
      have hb2 := ea _ _ hb'
      have q4 := q3 Ha (Same.refl _)
      walk_at "rd"
      refine LH.x_ixT (SqT.of ht') rfl ?_
      walk_at "rd"
      refine LH.x_ixT (SqT.of hb2) rfl ?_
      walk_at "rd"
      rw [dstr]
      by_cases c1 : p.2.k = u.k
      · rw [decide_eq_true c1]
        walk_at "rd"
        refine LH.x_ixT (SqT.of ht') rfl ?_
        walk_at "rd"
        refine LH.x_ixT (SqT.of hb2) rfl ?_
        walk_at "rd"
        rw [dint]
        by_cases c2 : p.2.n = u.n
        · rw [decide_eq_true c2]
          walk_at "rd"
          refine LH.x_ixT (SqT.of ht') rfl ?_
          walk_at "rd"
          refine LH.x_ixT (SqT.of hb2) rfl ?_
          walk_at "rd"
          rw [dint]
          by_cases c3 : p.2.h = u.h
          · rw [decide_eq_true c3]
            have : p.2.pl = u.pl := pl_eq.mpr ⟨c1, c2, c3⟩
            simpa [sameF, this] using q4
          · rw [decide_eq_false c3]
            have : ¬ p.2.pl = u.pl := fun q => c3 (pl_eq.mp q).2.2
            simpa [sameF, this] using q4
        · rw [decide_eq_false c2]
          have : ¬ p.2.pl = u.pl := fun q => c2 (pl_eq.mp q).2.1
          walk_at "rd"
          simpa [sameF, this] using q4
      · rw [decide_eq_false c1]
        have : ¬ p.2.pl = u.pl := fun q => c1 (pl_eq.mp q).1
        walk_at "rd"
        simpa [sameF, this] using q4
    · intro i y z hy hz Ha ea Q3 q3
      obtain ⟨p, hp, rfl, e⟩ := kept_get hy hz
      walk_at "rd"
      split at e
      · injection e with e
        rw [← e]
        exact q3 _ (Same.refl _)
      · cases e
    rw [find_kept] at g1
    walk_at "rd"
    have p1M : p1 ∉ M := LH.not_in f1 al
    refine LH.getv (LH.getS (e1 _ _ ob)) rfl ?_
    walk_at "rd"
    refine LH.bm_l (SqL.of (e1 _ _ kn)) ?_
    walk_at "rd"
    refine LH.x_appK (e1 _ _ kn) (by rw [List.length_map]; omega) fun H2 k2 g2 => ?_
    walk_at "rd"
    refine LH.newl (LH.small rfl) fun pt H3 f3 e3 g3 => ?_
    walk_at "rd"
    have knM : oa.kn ∈ M := mS _ (by simp)
    have keep3 : ∀ y o, H y = some o → y ≠ oa.kn → H3 y = some o := fun y o q n => e3 _ _ (k2 _ _ (e1 _ _ q) n)
    have F3 : Same (LH.Fr M H) (LH.Fr M H3) := fun y o q => by
      obtain ⟨q1, q2⟩ := LH.fr_some q
      exact LH.fr_of (keep3 y o q1 fun e => q2 (e ▸ knM)) q2
    have ob3 := keep3 _ _ ob n1.1.1
    have g13 : H3 p1 = some _ := e3 _ _ (k2 _ _ g1 fun e => p1M (e ▸ knM))
    have tv2 : Tv (LH.Fr M H3) (l ++ [(V.ref b, u)]) := fun p hp => by
      rcases List.mem_append.mp hp with hp | hp
      · exact (tv p hp).up F3
      · rw [List.mem_singleton.mp hp]
        exact wu.up F3
    have kn3 : H3 oa.kn = some (.lst ((l ++ [(V.ref b, u)]).map (·.1))) := by rw [List.map_append]; exact e3 _ _ g2
    have snd2 : (l ++ [(V.ref b, u)]).map (·.2) = (st.learn u).known := by
      rw [List.map_append, lk]
      exact (learn_new c).symm
    have al3 : ∀ y ∈ M, ∃ o, H3 y = some o := fun y hy => by
      by_cases q : y = oa.kn
      · rw [q]; exact ⟨_, kn3⟩
      · obtain ⟨o, h⟩ := al y hy
        exact ⟨o, keep3 y o h q⟩
    have ptM : pt ∉ M := fun m => by
      by_cases q : pt = oa.kn
      · rw [q] at f3
        rw [f3] at g2
        cases g2
      · obtain ⟨o, h⟩ := al pt m
        rw [k2 _ _ (e1 _ _ h) q] at f3
        cases f3
    have ptH : H pt = none := by
      cases q : H pt with
      | none => rfl
      | some o =>
        by_cases e : pt = oa.kn
        · exact absurd (e ▸ knM) ptM
        · rw [k2 _ _ (e1 _ _ q) e] at f3
          cases f3
    -- its own marks at the number
    refine LH.getv (LH.getS ob3) rfl ?_
    refine LH.lc_Li (SqL.of kn3) (by rw [List.length_map, List.length_append, List.length_singleton]; omega) (keep (mineF u.n st.own) (l ++ [(V.ref b, u)])) keep_len (fun _ => rfl) ?_ ?_ fun p5 H4 f4 e4 g4 => ?_
    · intro i y o hy ho Ha ea Q3 q3
      obtain ⟨p, hp, rfl, rfl⟩ := kept_get hy ho
      obtain ⟨t, et, ht⟩ := (tv2 p hp).up LH.fr_le
      rw [et]
      have ht' := ea _ _ ht
      have hb2 : Ha b = some (.tup u.vs) := ea _ _ (LH.fr_le _ _ (F3 _ _ hb))
      have q4 := q3 Ha (Same.refl _)
      walk_at "rd"
      refine LH.x_ixT (SqT.of ht') rfl ?_
      walk_at "rd"
      rw [dstr]
      by_cases c1 : p.2.k = ("mark" : Str)
      · rw [decide_eq_true c1]
        walk_at "rd"
        refine LH.x_ixT (SqT.of ht') rfl ?_
        walk_at "rd"
        refine LH.x_ixT (SqT.of hb2) rfl ?_
        walk_at "rd"
        rw [dint]
        by_cases c2 : p.2.n = u.n
        · rw [decide_eq_true c2]
          walk_at "rd"
          refine LH.x_ixT (SqT.of ht') rfl ?_
          walk_at "rd"
          refine LH.getv (LH.getS (ea _ _ ob3)) rfl ?_
          walk_at "rd"
          rw [dint]
          by_cases c3 : p.2.h = st.own
          · rw [decide_eq_true c3]
            simpa [mineF, c1, c2, c3] using q4
          · rw [decide_eq_false c3]
            simpa [mineF, c1, c2, c3] using q4
        · rw [decide_eq_false c2]
          walk_at "rd"
          simpa [mineF, c1, c2] using q4
      · rw [decide_eq_false c1]
        walk_at "rd"
        simpa [mineF, c1] using q4
    · intro i y z hy hz Ha ea Q3 q3
      obtain ⟨p, hp, rfl, e⟩ := kept_get hy hz
      walk_at "rd"
      split at e
      · injection e with e
        rw [← e]
        exact q3 _ (Same.refl _)
      · cases e
    rw [find_kept] at g4
    walk_at "rs"
    have hb4 : H4 b = some (.tup u.vs) := e4 _ _ (LH.fr_le _ _ (F3 _ _ hb))
    have tv4 : Tv (LH.Fr M H4) (l ++ [(V.ref b, u)]) := tv2.up (LH.same_fr e4)
    have p5M : p5 ∉ M := LH.not_in f4 al3
    refine LH.cutS (fun σ' H' => ∃ ts l3, σ' = [some (.ref oa.o), some (.ref b), some (.ref p1), none, some (.ref pt), some (.ref p5), none, none] ∧ (∀ y o, H4 y = some o → y ≠ oa.kn → y ≠ pt → H' y = some o) ∧ H' pt = some (.lst ts) ∧ TW (LH.Fr M H') ts ((st.learn u).markT u) ∧ H' oa.kn = some (.lst (l3.map (·.1))) ∧ Tv (LH.Fr M H') l3 ∧ l3.map (·.2) = ((st.learn u).mark u).known) (fun N hN => ?_) ?_
    · have non : (st.learn u).marks u = false → ∀ Ha, Same H4 Ha → ∃ ts l3, [some (V.ref oa.o), some (.ref b), some (.ref p1), none, some (.ref pt), some (.ref p5), none, none] = [some (V.ref oa.o), some (.ref b), some (.ref p1), none, some (.ref pt), some (.ref p5), none, none] ∧ (∀ y o, H4 y = some o → y ≠ oa.kn → y ≠ pt → Ha y = some o) ∧ Ha pt = some (.lst ts) ∧ TW (LH.Fr M Ha) ts ((st.learn u).markT u) ∧ Ha oa.kn = some (.lst (l3.map (·.1))) ∧ Tv (LH.Fr M Ha) l3 ∧ l3.map (·.2) = ((st.learn u).mark u).known := fun e Ha ea => by
        have e1 : (st.learn u).markT u = [] := by unfold HS.markT; rw [if_neg (by rw [e]; exact Bool.false_ne_true)]
        have e2 : (st.learn u).mark u = st.learn u := by unfold HS.mark; rw [if_neg (by rw [e]; exact Bool.false_ne_true)]
        exact ⟨[], _, rfl, fun y o q _ _ => ea _ _ q, ea _ _ (e4 _ _ g3), by rw [e1]; exact .nil, ea _ _ (e4 _ _ kn3), tv4.up (LH.same_fr ea), by rw [e2]; exact snd2⟩
      have mk : (st.learn u).marks u = (decide (u.k = ("say" : Str)) && ((st.learn u).known.filter (mineF u.n st.own)).isEmpty) := marks_new mi om
      walk_at "rd"
      refine LH.x_ixT (SqT.of hb4) rfl ?_
      walk_at "rd"
      rw [dstr]
      by_cases c1 : u.k = ("say" : Str)
      · rw [decide_eq_true c1]
        walk_at "rd"
        refine LH.newl (LH.small rfl) fun pn_ Ha fa ea ga => ?_
        have wks : ∀ w ∈ (fil (mineF u.n st.own) (l ++ [(V.ref b, u)])).map (·.2), w.Ok := fun w hw => by
          rw [kept_snd, snd2] at hw
          have hw := (List.mem_filter.mp hw).1
          exact (mem_learn.mp hw).elim (wk w) fun e => e ▸ fit.1
        have dsE : (fil (mineF u.n st.own) (l ++ [(V.ref b, u)])).map (fun p => p.2.dat) = ((fil (mineF u.n st.own) (l ++ [(V.ref b, u)])).map (·.2)).map Wrd.dat := by rw [List.map_map]; rfl
        have tvm : Tv Ha (fil (mineF u.n st.own) (l ++ [(V.ref b, u)])) := tv4.fil.up (LH.fr_le.trans ea)
        have lay0 : Lay 1 (.list []) := ⟨rfl, by decide⟩
        refine LH.x_eqD (d := .list _) (e := .list []) (.lst (SqL.of (ea _ _ g4)) tvm.wp.dpA) (.lst (SqL.of ga) .nil) (by rw [dsE]; exact (lay_words wks).shaped) lay0.shaped ?_
        rw [eqv_nil]
        have em : ((fil (mineF u.n st.own) (l ++ [(V.ref b, u)])).map (fun p => p.2.dat)).isEmpty = (st.learn u).marks u := by
          rw [mk, decide_eq_true c1, Bool.true_and, ← snd2, ← kept_snd]
          cases (fil (mineF u.n st.own) (l ++ [(V.ref b, u)])) <;> rfl
        rw [em]
        cases hm : (st.learn u).marks u with
        | false =>
          walk_at "rd"
          exact hN _ _ (non hm Ha ea)
        | true =>
          walk_at "rd"
          have ea4 := e4.trans ea
          have ptk : pt ≠ oa.kn := fun e => ptM (e ▸ knM)
          refine LH.bm_l (SqL.of (ea4 _ _ g3)) ?_
          walk_at "rd"
          refine LH.x_ixT (SqT.of (ea _ _ hb4)) rfl ?_
          walk_at "rd"
          refine LH.x_ixT (SqT.of (ea _ _ hb4)) rfl ?_
          walk_at "rd"
          refine LH.getv (LH.getS (ea4 _ _ ob3)) rfl ?_
          walk_at "rd"
          refine LH.newt (LH.small rfl) fun t Hb fb eb gb => ?_
          walk_at "rd"
          have e4b := ea4.trans eb
          have al_b : ∀ y ∈ M, ∃ o, Hb y = some o := fun y hy => let ⟨o, h⟩ := al3 y hy; ⟨o, e4b _ _ h⟩
          have tM : t ∉ M := LH.not_in fb fun y hy => let ⟨o, h⟩ := al3 y hy; ⟨o, ea4 _ _ h⟩
          have tpt : t ≠ pt := fun e => by rw [e, ea4 _ _ g3] at fb; cases fb
          refine LH.x_appK (e4b _ _ g3) (by decide) fun Hc kc gc => ?_
          walk_at "rd"
          have c4 : ∀ y o, H4 y = some o → y ≠ pt → Hc y = some o := fun y o q n => kc _ _ (eb _ _ (ea _ _ q)) n
          refine LH.getv (LH.getS (c4 _ _ (e4 _ _ ob3) fun e => ptM (e ▸ mS _ (by simp)))) rfl ?_
          walk_at "rd"
          refine LH.bm_l (SqL.of (c4 _ _ (e4 _ _ kn3) ptk.symm)) ?_
          walk_at "rd"
          refine LH.x_ixL (SqL.of gc) rfl ?_
          walk_at "rd"
          refine LH.x_appK (c4 _ _ (e4 _ _ kn3) ptk.symm) (by rw [List.length_map, List.length_append, List.length_singleton]; omega) fun Hd kd gd => ?_
          walk_at "rd"
          have keepd : ∀ y o, H4 y = some o → y ≠ oa.kn → y ≠ pt → Hd y = some o := fun y o q n1 n2 => kd _ _ (c4 y o q n2) n1
          have Fd : Same (LH.Fr M H) (LH.Fr M Hd) := fun y o q => by
            obtain ⟨q1, q2⟩ := LH.fr_some q
            have yk : y ≠ oa.kn := fun e => q2 (e ▸ knM)
            exact LH.fr_of (keepd y o (e4 _ _ (keep3 y o q1 yk)) yk (ne_of_none q1 ptH)) q2
          have td : WT (LH.Fr M Hd) (.ref t) (markOf st.own u) := ⟨t, rfl, LH.fr_of (kd _ _ (kc _ _ gb tpt) fun e => tM (e ▸ knM)) tM⟩
          have em1 : (st.learn u).markT u = [markOf st.own u] := by unfold HS.markT; rw [if_pos hm]; rfl
          have ek := known_new mi c om
          rw [em1] at ek
          refine hN _ _ ⟨[.ref t], l ++ [(V.ref b, u)] ++ [(.ref t, markOf st.own u)], rfl, keepd, kd _ _ gc ptk, by rw [em1]; exact .cons td .nil, by rw [List.map_append]; exact gd, fun p hp => ?_, ?_⟩
          · rcases List.mem_append.mp hp with hp | hp
            · rcases List.mem_append.mp hp with hp | hp
              · exact (tv p hp).up Fd
              · rw [List.mem_singleton.mp hp]
                exact wu.up Fd
            · rw [List.mem_singleton.mp hp]
              exact td
          · rw [List.map_append, List.map_append, lk, ek]
            rfl
      · rw [decide_eq_false c1]
        walk_at "rd"
        exact hN _ _ (non (by rw [mk, decide_eq_false c1]; rfl) _ (Same.refl _))
    rintro σ' H5 ⟨ts, l3, rfl, k5, gt5, tw5, kn5, tv5, snd3⟩
    have keep5 : ∀ y o, y ≠ oa.kn → H y = some o → H5 y = some o := fun y o n q => k5 y o (e4 _ _ (keep3 y o q n)) n (ne_of_none q ptH)
    have F5 : Same (LH.Fr M H) (LH.Fr M H5) := fun y o q => by
      obtain ⟨q1, q2⟩ := LH.fr_some q
      exact LH.fr_of (keep5 y o (fun e => q2 (e ▸ knM)) q1) q2
    have ob5 := keep5 _ _ n1.1.1 ob
    have hb5 : H5 b = some (.tup u.vs) := LH.fr_le _ _ (F5 _ _ hb)
    have p1pt : p1 ≠ pt := fun e => by
      have := k2 _ _ g1 fun e => p1M (e ▸ knM)
      rw [e, f3] at this
      cases this
    have g15 : H5 p1 = some _ := k5 _ _ (e4 _ _ g13) (fun e => p1M (e ▸ knM)) p1pt
    have al5 : ∀ y ∈ M, ∃ o, H5 y = some o := fun y hy => by
      by_cases q : y = oa.kn
      · rw [q]; exact ⟨_, kn5⟩
      · obtain ⟨o, h⟩ := al y hy
        exact ⟨o, keep5 y o q h⟩
    have go2 : Good ((st.learn u).mark u) := (go.learn fit).mark fit.1
    have c2 : ((st.learn u).mark u).c = st.c := mark_same.1
    have len3 : l3.length ≤ 402 := by
      have h1 : l3.length = ((st.learn u).mark u).known.length := by rw [← snd3, List.length_map]
      have h2 := size_mark (st := st.learn u) (w := u)
      have h3 := size_learn (st := st) (w := u)
      rw [h1]
      have h4 : ((st.learn u).mark u).size ≤ 403 := by omega
      rw [known_new mi c om, List.length_append, List.length_append, List.length_singleton]
      have h5 : st.known.length ≤ 400 := by have := sz; unfold HS.size at this; omega
      have h6 : ((st.learn u).markT u).length ≤ 1 := by unfold HS.markT; split <;> simp
      omega
    -- the marks of the row
    walk_at "rd"
    refine LH.getv (LH.getS ob5) rfl ?_
    refine LH.lc_Li (SqL.of kn5) (by rw [List.length_map]; omega) (keep (isM (nr u)) l3) keep_len (fun _ => rfl) ?_ ?_ fun p7 H6 f6 e6 g6 => ?_
    · intro i y o hy ho Ha ea Q3 q3
      obtain ⟨p, hp, rfl, rfl⟩ := kept_get hy ho
      obtain ⟨t, et, ht⟩ := (tv5 p hp).up LH.fr_le
      rw [et]
      have ht' := ea _ _ ht
      have hb2 := ea _ _ hb5
      have q4 := q3 Ha (Same.refl _)
      walk_at "rd"
      refine LH.x_ixT (SqT.of ht') rfl ?_
      walk_at "rd"
      rw [dstr]
      by_cases c1 : p.2.k = ("mark" : Str)
      · rw [decide_eq_true c1]
        walk_at "rd"
        refine LH.x_ixT (SqT.of ht') rfl ?_
        walk_at "rd"
        refine LH.x_ixT (SqT.of hb2) rfl ?_
        walk_at "rd"
        rw [dint]
        by_cases c2 : p.2.n = u.n
        · rw [decide_eq_true c2]
          walk_at "rd"
          refine LH.x_ixT (SqT.of ht') rfl ?_
          walk_at "rd"
          refine LH.x_ixT (SqT.of hb2) rfl ?_
          walk_at "rd"
          rw [dstr]
          by_cases c3 : p.2.r = u.r
          · rw [decide_eq_true c3]
            have : nr p.2 = nr u := nr_eq.mpr ⟨c2, c3⟩
            simpa [isM, c1, this] using q4
          · rw [decide_eq_false c3]
            have : ¬ nr p.2 = nr u := fun q => c3 (nr_eq.mp q).2
            simpa [isM, c1, this] using q4
        · rw [decide_eq_false c2]
          have : ¬ nr p.2 = nr u := fun q => c2 (nr_eq.mp q).1
          walk_at "rd"
          simpa [isM, c1, this] using q4
      · rw [decide_eq_false c1]
        walk_at "rd"
        simpa [isM, c1] using q4
    · intro i y z hy hz Ha ea Q3 q3
      obtain ⟨p, hp, rfl, e⟩ := kept_get hy hz
      walk_at "rd"
      split at e
      · injection e with e
        rw [← e]
        exact q3 _ (Same.refl _)
      · cases e
    rw [find_kept] at g6
    obtain ⟨lb, elb⟩ : ∃ lb, fil (isM (nr u)) l3 = lb := ⟨_, rfl⟩
    have sb : lb.map (·.2) = marksOf ((st.learn u).mark u).known (nr u) := by rw [← elb, kept_snd, snd3]; rfl
    have tvb : Tv (LH.Fr M H6) lb := by rw [← elb]; exact tv5.fil.up (LH.same_fr e6)
    rw [elb] at g6
    have lbn : lb.length ≤ 12 := by
      have := marks_few go2 (nr u)
      rwa [← sb, List.length_map] at this
    have hnd : (lb.map fun p => p.2.h).Nodup := by
      have := marks_nodup go2 (nr u)
      rwa [← sb, List.map_map] at this
    walk_at "rd"
    -- sorted by houses
    refine LH.lc_N (SqL.of g6) (by rw [List.length_map]; omega) (fun i => .tup [.int (lb.getD i (.non, u)).2.h, (lb.getD i (.non, u)).1]) (fun i l e => by cases e) (fun _ => rfl) ?_ ?_ fun p8 H7 ys f7 e7 g7 ly hy => ?_
    · intro y hy Ha ea Q3 q3
      walk_at "rd"
      exact q3 _ (Same.refl _)
    · intro i y hy Ha ea Q3 q3
      rw [List.getElem?_map] at hy
      cases eb : lb[i]? with
      | none => rw [eb] at hy; cases hy
      | some p =>
        rw [eb] at hy
        have hy : p.1 = y := by injection hy
        subst hy
        have gd : lb.getD i (.non, u) = p := by rw [List.getD_eq_getElem?_getD, eb]; rfl
        obtain ⟨t, et, ht⟩ := (tvb p (List.mem_of_getElem? eb)).up LH.fr_le
        rw [et]
        walk_at "rd"
        refine LH.x_ixT (SqT.of (ea _ _ ht)) rfl ?_
        walk_at "rd"
        refine LH.newt (LH.small rfl) fun q Hb fb eb2 gb => ?_
        refine q3 q Hb eb2 ?_
        simp only [gd]
        rw [et]
        exact gb
    have item : ∀ (i : Nat) (y : V), ys[i]? = some y → ∃ p : VW, lb[i]? = some p ∧ ∃ (t b' : Addr), y = V.ref t ∧ H7 t = some (.tup [.int p.2.h, .ref b']) ∧ p.1 = .ref b' ∧ numOf H7 y = p.2.h ∧ thingOf H7 y = p.1 := fun i y h => by
      obtain ⟨t, rfl, ht⟩ := hy i y h
      have il : i < lb.length := by
        have := (List.getElem?_eq_some_iff.mp h).1
        rw [ly, List.length_map] at this
        exact this
      refine ⟨lb[i], List.getElem?_eq_getElem il, ?_⟩
      have gd : lb.getD i (.non, u) = lb[i] := by rw [List.getD_eq_getElem?_getD, List.getElem?_eq_getElem il]; rfl
      simp only [gd] at ht
      obtain ⟨b', eb', _⟩ := tvb lb[i] (List.getElem_mem il)
      rw [eb'] at ht
      obtain ⟨a1, a2⟩ := numOf_tup ht
      exact ⟨t, b', rfl, ht, eb', a1, a2.trans eb'.symm⟩
    walk_at "rd"
    refine LH.x_sortedNT (numOf H7) (SqL.of g7) (fun y hy => ?_) (fun y hy y' hy' e => ?_) fun zs p9 H8 per so f8 e8 g8 => ?_
    · obtain ⟨i, hi⟩ := List.mem_iff_getElem?.mp hy
      obtain ⟨p, _, t, b', rfl, ht, _, en, _⟩ := item i y hi
      exact ⟨t, b', rfl, by rw [en]; exact ht⟩
    · obtain ⟨i, hi⟩ := List.mem_iff_getElem?.mp hy
      obtain ⟨j, hj⟩ := List.mem_iff_getElem?.mp hy'
      obtain ⟨p, hp, _, _, _, _, _, en, _⟩ := item i y hi
      obtain ⟨p', hp', _, _, _, _, _, en', _⟩ := item j y' hj
      rw [en, en'] at e
      have i1 := (List.getElem?_eq_some_iff.mp hp).1
      have j1 := (List.getElem?_eq_some_iff.mp hp').1
      have : i = j := by
        refine (List.getElem_inj (xs := lb.map fun p => p.2.h) (h₀ := by rw [List.length_map]; exact i1) (h₁ := by rw [List.length_map]; exact j1) hnd).mp ?_
        rw [List.getElem_map, List.getElem_map, (List.getElem?_eq_some_iff.mp hp).2, (List.getElem?_eq_some_iff.mp hp').2, e]
      subst this
      rw [hi] at hj
      injection hj
    have memz : ∀ z ∈ zs, ∃ p ∈ lb, ∃ (t b' : Addr), z = V.ref t ∧ H7 t = some (.tup [.int p.2.h, .ref b']) ∧ p.1 = .ref b' ∧ numOf H7 z = p.2.h ∧ thingOf H7 z = p.1 := fun z hz => by
      obtain ⟨i, hi⟩ := List.mem_iff_getElem?.mp (per.mem_iff.mp hz)
      obtain ⟨p, hp, r⟩ := item i z hi
      exact ⟨p, List.mem_of_getElem? hp, r⟩
    refine LH.lc_L (SqL.of g8) (by rw [per.length_eq, ly, List.length_map]; omega) (fun _ => true) (thingOf H7) (fun _ => rfl) ?_ ?_ fun p10 H9 f9 e9 g9 => ?_
    · intro y hy Ha ea Q3 q3
      walk_at "rd"
      exact q3 _ (Same.refl _)
    · intro y hy _ Ha ea Q3 q3
      obtain ⟨p, _, t, b', rfl, ht, _, _, _⟩ := memz y hy
      walk_at "rd"
      refine LH.x_ixT (SqT.of (ea _ _ (e8 _ _ ht))) rfl ?_
      rw [(numOf_tup ht).2] at q3
      exact q3 _ (Same.refl _)
    rw [List.filter_eq_self.mpr (fun _ _ => rfl)] at g9
    have e69 := (e7.trans e8).trans e9
    have tw9 : TW (LH.Fr M H9) (zs.map (thingOf H7)) (rise st.c (marksOf ((st.learn u).mark u).known (nr u))) := by
      have kz : (zs.map (numOf H7)).Perm (lb.map fun p => p.2.h) := by
        refine (per.map _).trans ?_
        have : ys.map (numOf H7) = lb.map fun p => p.2.h := by
          refine List.ext_getElem (by rw [List.length_map, List.length_map, ly, List.length_map]) fun i h1 h2 => ?_
          rw [List.getElem_map, List.getElem_map]
          rw [List.length_map] at h1
          obtain ⟨p, hp, _, _, _, _, _, en, _⟩ := item i ys[i] (List.getElem?_eq_getElem h1)
          rw [en, (List.getElem?_eq_some_iff.mp hp).2]
        rw [this]
      have er : rise st.c (marksOf ((st.learn u).mark u).known (nr u)) = (zs.map (numOf H7)).filterMap fun j => (marksOf ((st.learn u).mark u).known (nr u)).find? fun w => decide (w.h = j) := by
        refine rise_of so (kz.nodup_iff.mpr hnd) (fun j => ?_) fun w hw => ?_
        · rw [kz.mem_iff, ← sb, List.map_map]
          rfl
        · have := (go2.wd w (List.mem_filter.mp hw).1).2
          rw [c2] at this
          exact this
      rw [er]
      refine paired_sorted zs fun z hz => ?_
      obtain ⟨p, hp, _, _, _, _, _, en, et⟩ := memz z hz
      have pm : p.2 ∈ marksOf ((st.learn u).mark u).known (nr u) := by rw [← sb]; exact List.mem_map.mpr ⟨p, hp, rfl⟩
      rw [en, et]
      cases q : (marksOf ((st.learn u).mark u).known (nr u)).find? (fun w => decide (w.h = p.2.h)) with
      | none =>
        have := List.find?_eq_none.mp q p.2 pm
        simp at this
      | some w =>
        have hw := List.mem_of_find?_eq_some q
        have e : w.h = p.2.h := by simpa using List.find?_some q
        have := mark_eq (List.mem_filter.mp hw).2 (List.mem_filter.mp pm).2 e
        subst this
        exact ⟨p.2, rfl, (tvb p hp).up (LH.same_fr e69)⟩
    walk_at "rs"
    have e59 := e6.trans e69
    have F9 : Same (LH.Fr M H) (LH.Fr M H9) := F5.trans (LH.same_fr e59)
    have ob9 := e59 _ _ ob5
    have hb9 := e59 _ _ hb5
    have keep9 : ∀ y o, y ≠ oa.kn → H y = some o → H9 y = some o := fun y o n q => e59 _ _ (keep5 y o n q)
    have al9 : ∀ y ∈ M, ∃ o, H9 y = some o := fun y hy => let ⟨o, h⟩ := al5 y hy; ⟨o, e59 _ _ h⟩
    have p10M : p10 ∉ M := LH.not_in f9 fun y hy => let ⟨o, h⟩ := al5 y hy; ⟨o, (e6.trans (e7.trans e8)) _ _ h⟩
    have none9 : ∀ y, y ∉ M → H9 y = none → H y = none := fun y n q => by
      cases q2 : H y with
      | none => rfl
      | some o => rw [keep9 y o (fun e => n (e ▸ knM)) q2] at q; cases q
    have pro9 : PRo H9 oa.ro st.rows := keep9 _ _ (Ne.symm n1.2.1.1) pro
    have pba9 : PBa (LH.Fr M H9) H9 oa.ba st.backs := pba.to F9 fun o q => keep9 _ o (Ne.symm n1.2.1.2.1) q
    have rows2 : ((st.learn u).mark u).rows = st.rows := mark_same.2.2.2
    have backs2 : ((st.learn u).mark u).backs = st.backs := by unfold HS.mark; split <;> rfl
    have lenz : (zs.map (thingOf H7)).length = (marksOf ((st.learn u).mark u).known (nr u)).length := by rw [List.length_map, per.length_eq, ly, List.length_map, ← sb, List.length_map]
    have tw59 : TW (LH.Fr M H9) ts ((st.learn u).markT u) := tw5.up (LH.same_fr e59)
    refine LH.cutS (fun σ' H' => ∃ r9 ts9, σ' = [some (.ref oa.o), some (.ref b), some (.ref p1), none, some (.ref r9), some (.ref p5), some (.ref p10), none] ∧ (∀ y o, H9 y = some o → y ≠ oa.ro → y ≠ oa.ba → H' y = some o) ∧ H' r9 = some (.lst ts9) ∧ r9 ∉ M ∧ H r9 = none ∧ TW (LH.Fr M H') ts9 ((st.learn u).markT u ++ ((st.learn u).mark u).backT u) ∧ PRo H' oa.ro (((st.learn u).mark u).write u).rows ∧ PBa (LH.Fr M H') H' oa.ba (((st.learn u).mark u).write u).backs) (fun N hN => ?_) ?_
    · have non : ((st.learn u).mark u).writes u = false → ∀ Ha, Same H9 Ha → ∃ r9 ts9, [some (V.ref oa.o), some (.ref b), some (.ref p1), none, some (.ref pt), some (.ref p5), some (.ref p10), none] = [some (V.ref oa.o), some (.ref b), some (.ref p1), none, some (.ref r9), some (.ref p5), some (.ref p10), none] ∧ (∀ y o, H9 y = some o → y ≠ oa.ro → y ≠ oa.ba → Ha y = some o) ∧ Ha r9 = some (.lst ts9) ∧ r9 ∉ M ∧ H r9 = none ∧ TW (LH.Fr M Ha) ts9 ((st.learn u).markT u ++ ((st.learn u).mark u).backT u) ∧ PRo Ha oa.ro (((st.learn u).mark u).write u).rows ∧ PBa (LH.Fr M Ha) Ha oa.ba (((st.learn u).mark u).write u).backs := fun e Ha ea => by
        have e1 : ((st.learn u).mark u).backT u = [] := by unfold HS.backT; rw [if_neg (by rw [e]; exact Bool.false_ne_true)]
        have e2 : ((st.learn u).mark u).write u = (st.learn u).mark u := by unfold HS.write; rw [if_neg (by rw [e]; exact Bool.false_ne_true)]
        exact ⟨pt, ts, rfl, fun y o q _ _ => ea _ _ q, ea _ _ (e59 _ _ gt5), ptM, ptH, by rw [e1, List.append_nil]; exact tw59.up (LH.same_fr ea), by rw [e2, rows2]; exact pro9.to fun o q => ea _ _ q, by rw [e2, backs2]; exact pba9.to (LH.same_fr ea) fun o q => ea _ _ q⟩
      walk_at "rd"
      refine LH.x_ixT (SqT.of hb9) rfl ?_
      walk_at "rd"
      refine LH.getv (LH.getS ob9) rfl ?_
      refine LH.niv (LH.getI pro9) ?_
      rw [rows_in]
      walk_at "rd"
      by_cases c1 : u.n ∈ st.rows.map (·.1)
      · rw [decide_eq_true c1]
        walk_at "rd"
        exact hN _ _ (non (by unfold HS.writes; rw [rows2, decide_eq_true c1]; rfl) _ (Same.refl _))
      · rw [decide_eq_false c1]
        walk_at "rd"
        refine LH.x_lenL (SqL.of g9) ?_
        walk_at "rd"
        refine LH.getv (LH.getS ob9) rfl ?_
        walk_at "rd"
        rw [lenz]
        by_cases c3 : en st.c ≤ ((marksOf ((st.learn u).mark u).known (nr u)).length : Int)
        · rw [decide_eq_true c3]
          walk_at "rd"
          have yes : ((st.learn u).mark u).writes u = true := by unfold HS.writes; rw [rows2, decide_eq_false c1, c2, decide_eq_true c3]; rfl
          refine LH.x_ixT (SqT.of hb9) rfl ?_
          walk_at "rd"
          refine LH.getv (LH.getS ob9) rfl ?_
          walk_at "rd"
          refine LH.x_ixT (SqT.of hb9) rfl ?_
          refine LH.putvI pro9 (by rw [List.length_map]; have := sz; unfold HS.size at this; omega) fun Ha ka ga => ?_
          have roM : oa.ro ∈ M := mS _ (by simp)
          have baM : oa.ba ∈ M := mS _ (by simp)
          have obro : oa.o ≠ oa.ro := n1.1.2.1
          have bro : ∀ y, y ∈ M → b ≠ y := fun y hy e => bM (e ▸ hy)
          walk_at "rd"
          refine LH.getv (LH.getS (ka _ _ ob9 obro)) rfl ?_
          walk_at "rd"
          refine LH.x_ixT (SqT.of (ka _ _ hb9 (bro _ roM))) rfl ?_
          obtain ⟨kvb, gb, pb⟩ := id pba9
          have lb2 : kvb.length = st.rows.length := by
            rw [LH.Paired.len pb]
            have := congrArg List.length go.bn
            rwa [List.length_map, List.length_map] at this
          refine LH.putvI (ka _ _ gb (Ne.symm n1.2.2.1.1)) (by have := sz; unfold HS.size at this; omega) fun Hb kb gb2 => ?_
          walk_at "rd"
          have keepb : ∀ y o, H9 y = some o → y ≠ oa.ro → y ≠ oa.ba → Hb y = some o := fun y o q n1 n2 => kb _ _ (ka _ _ q n1) n2
          have ptb : Hb pt = some (.lst ts) := keepb _ _ (e59 _ _ gt5) (fun e => ptM (e ▸ roM)) fun e => ptM (e ▸ baM)
          have p10b : Hb p10 = some _ := keepb _ _ g9 (fun e => p10M (e ▸ roM)) fun e => p10M (e ▸ baM)
          have Fb : Same (LH.Fr M H9) (LH.Fr M Hb) := fun y o q => by
            obtain ⟨q1, q2⟩ := LH.fr_some q
            exact LH.fr_of (keepb y o q1 (fun e => q2 (e ▸ roM)) fun e => q2 (e ▸ baM)) q2
          have lts : ts.length ≤ 1 := by
            rw [LH.Paired.len tw5]
            unfold HS.markT
            split <;> simp
          refine LH.x_catS (SqL.of ptb) (SqL.of p10b) (by rw [lenz]; have := marks_few go2 (nr u); omega) fun r9 Hc fc ec gc => ?_
          walk_at "rd"
          have FC := Fb.trans (LH.same_fr (M := M) ec)
          have ew : ((st.learn u).mark u).write u = { (st.learn u).mark u with rows := ((st.learn u).mark u).rows ++ [(u.n, u.r)], backs := ((st.learn u).mark u).backs ++ [(u.n, rise ((st.learn u).mark u).c (marksOf ((st.learn u).mark u).known (nr u)))] } := by unfold HS.write; rw [if_pos yes]
          have et : ((st.learn u).mark u).backT u = rise ((st.learn u).mark u).c (marksOf ((st.learn u).mark u).known (nr u)) := by unfold HS.backT; rw [if_pos yes]
          rw [c2] at ew et
          have alb : ∀ y ∈ M, ∃ o, Hb y = some o := fun y hy => by
            by_cases q1 : y = oa.ba
            · rw [q1]; exact ⟨_, gb2⟩
            · by_cases q2 : y = oa.ro
              · rw [q2]; exact ⟨_, kb _ _ ga n1.2.2.1.1⟩
              · obtain ⟨o, h⟩ := al9 y hy
                exact ⟨o, keepb y o h q2 q1⟩
          have r9M : r9 ∉ M := LH.not_in fc alb
          have r9H : H r9 = none := none9 r9 r9M (by
            cases q : H9 r9 with
            | none => rfl
            | some o => rw [keepb _ _ q (fun e => r9M (e ▸ roM)) fun e => r9M (e ▸ baM)] at fc; cases fc)
          have noro : valV (st.rows.map fun e => ((Sum.inl e.1 : Key), V.str e.2)) (Sum.inl u.n) = none := by
            have := rows_in (l := st.rows) (f := fun e => e.1) (g := fun e => V.str e.2) (n := u.n)
            rw [decide_eq_false c1] at this
            cases q : valV (st.rows.map fun e => ((Sum.inl e.1 : Key), V.str e.2)) (Sum.inl u.n) with
            | none => rfl
            | some z => rw [q] at this; cases this
          have nob : valV kvb (Sum.inl u.n) = none := by
            have := paired_in (f := fun z : Int × List Wrd => z.1) (fun _ _ q => q.1) (n := u.n) pb
            rw [show st.backs.map (fun z : Int × List Wrd => z.1) = st.rows.map (·.1) from go.bn, decide_eq_false c1] at this
            cases q : valV kvb (Sum.inl u.n) with
            | none => rfl
            | some z => rw [q] at this; cases this
          refine hN _ _ ⟨r9, _, rfl, fun y o q n1 n2 => ec _ _ (keepb y o q n1 n2), gc, r9M, r9H, ?_, ?_, ?_⟩
          · rw [et]
            exact (tw59.up FC).app (tw9.up FC)
          · rw [ew]
            show Hc oa.ro = some (.dK ((((st.learn u).mark u).rows ++ [(u.n, u.r)]).map fun e => (Sum.inl e.1, V.str e.2)))
            rw [putK_new _ noro] at ga
            rw [rows2, List.map_append]
            exact ec _ _ (kb _ _ ga n1.2.2.1.1)
          · rw [ew]
            rw [putK_new _ nob] at gb2
            refine ⟨_, ec _ _ gb2, ?_⟩
            show Paired _ _ (((st.learn u).mark u).backs ++ [(u.n, rise st.c (marksOf ((st.learn u).mark u).known (nr u)))])
            rw [backs2]
            exact LH.Paired.snoc (LH.Paired.imp (fun _ _ q => ⟨q.1, q.2.up FC⟩) pb) ⟨rfl, p10, _, rfl, LH.fr_of (ec _ _ p10b) p10M, tw9.up FC⟩
        · rw [decide_eq_false c3]
          walk_at "rd"
          exact hN _ _ (non (by unfold HS.writes; rw [rows2, c2, decide_eq_false c3, Bool.and_false]) _ (Same.refl _))
    rintro σ' HA ⟨r9, ts9, rfl, kA, gA, r9M, r9H, twA, proA, pbaA⟩
    have roM : oa.ro ∈ M := mS _ (by simp)
    have baM : oa.ba ∈ M := mS _ (by simp)
    have nmM : oa.nm ∈ M := mS _ (by simp)
    have outA : ∀ y o, y ∉ M → H9 y = some o → HA y = some o := fun y o n q => kA y o q (fun e => n (e ▸ roM)) fun e => n (e ▸ baM)
    have F9A : Same (LH.Fr M H9) (LH.Fr M HA) := fun y o q => by
      obtain ⟨q1, q2⟩ := LH.fr_some q
      exact LH.fr_of (outA y o q2 q1) q2
    have FA := F9.trans F9A
    have obA := kA _ _ ob9 n1.1.2.1 n1.1.2.2.1
    have hbA := outA _ _ bM hb9
    have g1A := outA _ _ p1M (e59 _ _ g15)
    have knA := kA _ _ (e59 _ _ kn5) n1.2.1.1 n1.2.1.2.1
    have nmA := kA _ _ (keep9 _ _ (Ne.symm n1.2.1.2.2) gnm) (Ne.symm n1.2.2.1.2) (Ne.symm n1.2.2.2)
    have pnA := LH.Paired.imp (fun _ _ q => Nm.up FA q) pn
    have tvA : Tv (LH.Fr M HA) l3 := (tv5.up (LH.same_fr e59)).up F9A
    have eh : st.hear u = (((st.learn u).mark u).write u).name u := by unfold HS.hear; rw [if_neg c]
    have eT : st.hearT u = (st.learn u).markT u ++ ((st.learn u).mark u).backT u ++ (((st.learn u).mark u).write u).nameT u := by unfold HS.hearT; rw [if_neg c]
    have named3 : (((st.learn u).mark u).write u).named = st.named := by
      unfold HS.write
      split
      · show ((st.learn u).mark u).named = _
        unfold HS.mark
        split <;> rfl
      · unfold HS.mark
        split <;> rfl
    have fin : ∀ Hz rz xz ns', (∀ y o, HA y = some o → y ≠ oa.nm → Hz y = some o) → Hz rz = some (.lst xz) → rz ∉ M → H rz = none → TW (LH.Fr M Hz) xz (st.hearT u) → Hz oa.nm = some (.lst ns') → Paired (Nm (LH.Fr M Hz)) ns' (st.hear u).named → Q (.ref rz) Hz := fun Hz rz xz ns' kz gz zM zH tz nz pz => by
      have FZ : Same (LH.Fr M HA) (LH.Fr M Hz) := fun y o q => by
        obtain ⟨q1, q2⟩ := LH.fr_some q
        exact LH.fr_of (kz y o q1 fun e => q2 (e ▸ nmM)) q2
      obtain ⟨s1, s2, s3⟩ := hear_same (st := st) (w := u)
      refine k Hz rz xz l3 (fun y o q n => ?_) ⟨?_, kz _ _ knA n1.2.1.2.2, tvA.up FZ, ?_, ?_, ?_, ⟨ns', nz, pz⟩, nd, go.hear fit, mi.hear om⟩ zH gz tz
      · unfold OA.S at n
        simp only [List.mem_cons, List.not_mem_nil, or_false, not_or] at n
        exact kz _ _ (kA _ _ (keep9 y o n.2.1 q) n.2.2.1 n.2.2.2.1) n.2.2.2.2
      · rw [s1, s2]
        exact kz _ _ obA n1.1.2.2.2
      · rw [eh, name_more.1, write_known]
        exact snd3
      · rw [eh, name_same.2.2.2]
        exact proA.to fun o q => kz _ _ q n1.2.2.1.2
      · rw [eh, name_more.2.1]
        exact pbaA.to FZ fun o q => kz _ _ q n1.2.2.2
    have fs : (fil (sameF u) l).map (·.2) = st.known.filter (sameF u) := by rw [kept_snd, lk]
    have nn : (((st.learn u).mark u).write u).names u = ((!(st.known.filter (sameF u)).isEmpty) && !decide (u.h ∈ st.named.map (·.1))) := names_new mi c om
    have nn1 : (((st.learn u).mark u).write u).first u = ((st.known.filter (sameF u)).head?).getD u := first_new mi c om
    have non : (((st.learn u).mark u).write u).names u = false → ∀ Hz, Same HA Hz → Q (.ref r9) Hz := fun e Hz ez => by
      have e1 : (((st.learn u).mark u).write u).nameT u = [] := by unfold HS.nameT; rw [if_neg (by rw [e]; exact Bool.false_ne_true)]
      have e2 : (((st.learn u).mark u).write u).name u = ((st.learn u).mark u).write u := by unfold HS.name; rw [if_neg (by rw [e]; exact Bool.false_ne_true)]
      refine fin Hz r9 ts9 ns (fun y o q _ => ez _ _ q) (ez _ _ gA) r9M r9H ?_ (ez _ _ nmA) ?_
      · rw [eT, e1, List.append_nil]
        exact twA.up (LH.same_fr ez)
      · rw [eh, e2, named3]
        exact LH.Paired.imp (fun _ _ q => Nm.up (LH.same_fr ez) q) pnA
    walk_at "rd"
    refine LH.newl (LH.small rfl) fun pz Ha fa ea ga => ?_
    have tvB : Tv Ha (fil (sameF u) l) := (tv.fil.up (FA.trans LH.fr_le)).up ea
    have wkf : ∀ w ∈ st.known.filter (sameF u), w.Ok := fun w hw => wk w (List.mem_filter.mp hw).1
    have dsB : (fil (sameF u) l).map (fun p => p.2.dat) = (st.known.filter (sameF u)).map Wrd.dat := by rw [← fs, List.map_map]; rfl
    have lay0 : Lay 1 (.list []) := ⟨rfl, by decide⟩
    refine LH.x_neD (d := .list ((st.known.filter (sameF u)).map Wrd.dat)) (e := .list []) (.lst (SqL.of (ea _ _ g1A)) (by rw [← dsB]; exact tvB.wp.dpA)) (.lst (SqL.of ga) .nil) (lay_words wkf).shaped lay0.shaped ?_
    rw [eqv_nil]
    cases hk : st.known.filter (sameF u) with
    | nil =>
      walk_at "rd"
      refine LH.br_eq (b' := false) rfl ?_
      walk_at "rd"
      exact non (by rw [nn, hk]; rfl) Ha ea
    | cons w0 ws0 =>
      walk_at "rd"
      refine LH.br_eq (b' := true) rfl ?_
      walk_at "rd"
      refine LH.x_ixT (SqT.of (ea _ _ hbA)) rfl ?_
      walk_at "rd"
      refine LH.getv (LH.getS (ea _ _ obA)) rfl ?_
      have lns : ns.length ≤ 400 := by
        rw [LH.Paired.len pn]
        have := sz
        unfold HS.size at this
        omega
      refine LH.lc_L (SqL.of (ea _ _ nmA)) (by omega) (fun _ => true) (firstOf HA) (fun _ => rfl) ?_ ?_ fun py Hb fb eb gb => ?_
      · intro y hy Hc ec Q3 q3
        walk_at "rd"
        exact q3 _ (Same.refl _)
      · intro y hy _ Hc ec Q3 q3
        obtain ⟨z, _, t, v1, v2, rfl, ht, _⟩ := paired_left pnA y hy
        have ht := LH.fr_le _ _ ht
        walk_at "rd"
        refine LH.x_ixT (SqT.of (ec _ _ (ea _ _ ht))) rfl ?_
        rw [firstOf_tup ht] at q3
        exact q3 _ (Same.refl _)
      rw [List.filter_eq_self.mpr (fun _ _ => rfl), firsts LH.fr_le pnA] at gb
      refine LH.x_in (SqL.of gb) rfl ints_flat ?_
      rw [inV_int]
      walk_at "rd"
      by_cases c4 : u.h ∈ st.named.map (·.1)
      · rw [decide_eq_true c4]
        walk_at "rd"
        refine LH.br_eq (b' := false) rfl ?_
        walk_at "rd"
        exact non (by rw [nn, hk, decide_eq_true c4]; rfl) Hb (ea.trans eb)
      · rw [decide_eq_false c4]
        walk_at "rd"
        refine LH.br_eq (b' := true) rfl ?_
        walk_at "rd"
        have yes : (((st.learn u).mark u).write u).names u = true := by rw [nn, hk, decide_eq_false c4]; rfl
        rw [hk] at nn1
        have nn1 : (((st.learn u).mark u).write u).first u = w0 := nn1
        have eab := ea.trans eb
        obtain ⟨p0, hp0, pe0, pw0⟩ : ∃ p0 r0, fil (sameF u) l = p0 :: r0 ∧ p0.2 = w0 := by
          cases q : fil (sameF u) l with
          | nil => rw [q, hk] at fs; cases fs
          | cons p0 r0 =>
            rw [q, hk] at fs
            injection fs with fs1 _
            exact ⟨p0, r0, rfl, fs1⟩
        have tp0 : WT (LH.Fr M HA) p0.1 p0.2 := (tv.fil p0 (by rw [pe0]; exact List.mem_cons_self ..)).up FA
        have g1L : HA p1 = some (.lst (p0.1 :: hp0.map (·.1))) := by rw [g1A, pe0]; rfl
        refine LH.getv (LH.getS (eab _ _ obA)) rfl ?_
        walk_at "rd"
        refine LH.bm_l (SqL.of (eab _ _ nmA)) ?_
        walk_at "rd"
        refine LH.x_ixT (SqT.of (eab _ _ hbA)) rfl ?_
        walk_at "rd"
        refine LH.x_ixL (SqL.of (eab _ _ g1L)) (atI_nat (j := 0) rfl) ?_
        walk_at "rd"
        refine LH.newt (LH.small rfl) fun t Hc fc ec gc => ?_
        walk_at "rd"
        have eac := eab.trans ec
        have alA : ∀ y ∈ M, ∃ o, HA y = some o := fun y hy => by
          by_cases q1 : y = oa.ro
          · rw [q1]; exact ⟨_, proA⟩
          · by_cases q2 : y = oa.ba
            · rw [q2]; obtain ⟨kv, h, _⟩ := pbaA; exact ⟨_, h⟩
            · obtain ⟨o, h⟩ := al9 y hy
              exact ⟨o, kA y o h q1 q2⟩
        have tM : t ∉ M := LH.not_in fc fun y hy => let ⟨o, h⟩ := alA y hy; ⟨o, eab _ _ h⟩
        refine LH.x_appK (eac _ _ nmA) (by omega) fun Hd kd gd => ?_
        walk_at "rd"
        have kd1 : ∀ y o, HA y = some o → y ≠ oa.nm → Hd y = some o := fun y o q n => kd _ _ (eac _ _ q) n
        have outd : ∀ y o, y ∉ M → HA y = some o → Hd y = some o := fun y o n q => kd1 y o q fun e => n (e ▸ nmM)
        refine LH.x_ixL (SqL.of (outd _ _ p1M g1L)) (atI_nat (j := 0) rfl) ?_
        walk_at "rd"
        refine LH.newl (LH.small rfl) fun q1 He fe ee ge => ?_
        have ltA : ts9.length ≤ 100 := by
          rw [LH.Paired.len twA, List.length_append]
          have h1 : ((st.learn u).markT u).length ≤ 1 := by unfold HS.markT; split <;> simp
          have h2 : (((st.learn u).mark u).backT u).length ≤ 12 := by
            unfold HS.backT
            split
            · refine Nat.le_trans (?_ : _ ≤ ((List.range st.c.toNat).length)) (by rw [List.length_range]; have := go.c2; omega)
              rw [c2]
              exact List.length_filterMap_le _ _
            · simp
          omega
        refine LH.x_catS (SqL.of (ee _ _ (outd _ _ r9M gA))) (SqL.of ge) (by simp; omega) fun r2 Hf ff ef gf => ?_
        walk_at "rd"
        have kf : ∀ y o, HA y = some o → y ≠ oa.nm → Hf y = some o := fun y o q n => ef _ _ (ee _ _ (kd1 y o q n))
        have FF : Same (LH.Fr M HA) (LH.Fr M Hf) := fun y o q => by
          obtain ⟨q1, q2⟩ := LH.fr_some q
          exact LH.fr_of (kf y o q1 fun e => q2 (e ▸ nmM)) q2
        have ald : ∀ y ∈ M, ∃ o, Hd y = some o := fun y hy => by
          by_cases q1 : y = oa.nm
          · rw [q1]; exact ⟨_, gd⟩
          · obtain ⟨o, h⟩ := alA y hy
            exact ⟨o, kd1 y o h q1⟩
        have r2M : r2 ∉ M := LH.not_in ff fun y hy => let ⟨o, h⟩ := ald y hy; ⟨o, ee _ _ h⟩
        have r2H : H r2 = none := none9 r2 r2M (by
          cases q : H9 r2 with
          | none => rfl
          | some o => rw [ee _ _ (outd _ _ r2M (outA _ _ r2M q))] at ff; cases ff)
        have wf : WT (LH.Fr M Hf) p0.1 w0 := pw0 ▸ tp0.up FF
        have wuf : WT (LH.Fr M Hf) (.ref b) u := (wu.up FA).up FF
        have e1 : (((st.learn u).mark u).write u).nameT u = [w0, u] := by unfold HS.nameT; rw [if_pos yes, nn1]
        have e2 : ((((st.learn u).mark u).write u).name u).named = st.named ++ [(u.h, w0, u)] := by
          unfold HS.name
          rw [if_pos yes]
          show (((st.learn u).mark u).write u).named ++ _ = _
          rw [named3, nn1]
        refine fin Hf r2 _ _ kf gf r2M r2H ?_ (ef _ _ (ee _ _ gd)) ?_
        · rw [eT, e1]
          exact (twA.up FF).app (.cons wf (.cons wuf .nil))
        · rw [eh, e2]
          exact LH.Paired.snoc (LH.Paired.imp (fun _ _ q => Nm.up FF q) pnA) ⟨t, _, _, rfl, LH.fr_of (ef _ _ (ee _ _ (kd _ _ gc fun e => tM (e ▸ nmM)))) tM, wf, wuf⟩
end
end K6
namespace K6
open PySem L2 LM HM
local macro_rules | `(tactic| walk_at "rd1") => `(tactic| first
  | with_reducible refine LH.x_seq ?_
  | with_reducible refine LH.x_asg ?_
  | with_reducible refine LH.x_cons ?_
  | with_reducible refine LH.x_var (by with_unfolding_all exact rfl) ?_
  | with_reducible refine LH.x_c ?_
  | with_reducible refine LH.x_op ?_
  | with_reducible refine LH.x_gname ?_
  | with_reducible refine LH.x_nil ?_
  | with_reducible refine LH.x_I0 ?_
  | ((with_reducible refine LH.x_I ?k1 ?_); (case k1 => first | exact (by decide) | exact ⟨by decide, by decide⟩ | exact ⟨by decide, by decide, by decide⟩ | exact .inl ⟨by decide, by decide⟩ | exact .inr ⟨by decide, by decide⟩ | exact .inr ⟨by omega, by omega⟩ | exact .inl ⟨by omega, by omega⟩ | exact (by omega)))
  | with_reducible refine LH.x_ifS ?_
  | with_reducible refine LH.x_test ?_
  | with_reducible refine LH.x_tB ?_
  | with_reducible refine LH.bx ?_
  | with_reducible refine LH.x_and ?_
  | with_reducible refine LH.x_or ?_
  | with_reducible refine LH.x_not ?_
  | with_reducible refine LH.x_ret ?_
  | with_reducible refine LH.x_call ?_
  | with_reducible refine LH.x_cb ?_
  | with_reducible refine LH.x_lst ?_
  | with_reducible refine LH.x_tup ?_
  | with_reducible refine LH.x_bm ?_
  | with_reducible refine LH.x_drop ?_
  | with_reducible refine LH.x_next ?_
  | with_reducible refine LH.x_cont ?_
  | with_reducible refine LH.x_un ?_
  | with_reducible refine LH.x_U ?_
  | with_reducible refine LH.x_eq (by with_unfolding_all exact rfl) ?_
  | with_reducible refine LH.x_ne (by with_unfolding_all exact rfl) ?_
  | with_reducible refine LH.x_andV ?_
  | with_reducible refine LH.x_orV ?_
  | with_reducible refine LH.x_notV ?_
  | with_reducible refine LH.band ?_
  | with_reducible refine LH.bor ?_
  | with_reducible refine LH.x_if ?_
  | with_reducible refine LH.x_chain ?_
  | with_reducible refine LH.chk ?_
  | with_reducible refine LH.x_callS ?_
  | with_reducible refine LH.x_callE ?_
  | with_reducible refine LH.x_callV ?_
  | with_reducible refine LH.x_lrg ?_
  | with_reducible refine LH.x_lcS ?_
  | with_reducible refine LH.x_lcR1 ?_
  | with_reducible refine LH.x_forR1 ?_
  | with_reducible refine LH.x_forR3 ?_
  | with_reducible refine LH.strv ?_
  | with_reducible refine LH.x_yes ?_
  | with_reducible refine LH.x_sl ?_
  | with_reducible refine LH.x_noPart ?_
  | with_reducible refine LH.x_part ?_
  | with_reducible refine LH.pav ?_
  | with_reducible refine LH.x_jnv ?_
  | with_reducible refine LH.x_join ?_
  | with_reducible refine LH.x_inS ?_
  | with_reducible refine LH.x_niS ?_
  | with_reducible refine LH.x_isB ?_
  | with_reducible refine LH.x_isnB ?_
  | with_reducible refine LH.x_gcons ?_
  | with_reducible refine LH.x_gnil ?_
  | with_reducible refine LH.x_intB ?_
  | with_reducible refine LH.x_orT ?_
  | with_reducible refine LH.x_isTy ?_
  | with_reducible refine LH.x_niTy ?_
  | with_reducible refine LH.x_split ?_
  | with_reducible refine LH.x_spv ?_
  | with_reducible refine LH.x_gsub ?_
  | with_reducible refine LH.x_fmt ?_
  | with_reducible refine LH.x_js0 ?_
  | with_reducible refine LH.x_js ?_
  | with_reducible refine LH.x_rg1 ?_
  | with_reducible refine LH.x_forL ?_
  | with_reducible refine LH.x_abs ?_
  | with_reducible refine LH.x_rg2 ?_
  | with_reducible refine LH.rg1v ?_
  | with_reducible refine LH.rg2v ?_
  | with_reducible refine LH.x_forR2 ?_
  | with_reducible refine LH.x_lenSetG ?_
  | with_reducible refine LH.x_lc ?_
  | with_reducible refine LH.x_fld ?_
  | with_reducible refine LH.x_sfld ?_
  | with_reducible refine LH.x_afld ?_
  | with_reducible refine LH.x_meth ?_
  | with_reducible refine LH.x_make ?_
  | with_reducible refine LH.x_methSl ?_
  | with_reducible refine LH.x_makeSl ?_
  | with_reducible refine LH.x_din ?_
  | with_reducible refine LH.x_dni ?_
  | with_reducible refine LH.x_dget ?_
  | with_reducible refine LH.x_dput ?_
  | with_reducible refine LH.x_dget2 ?_
  | with_reducible refine LH.x_dpop1 ?_
  | with_reducible refine LH.x_litems ?_
  | with_reducible refine LH.x_tru ?_
  | with_reducible refine LH.x_revL ?_
  | with_reducible refine LH.x_dsetT ?_
  | with_reducible refine LH.x_lvals ?_
  | with_reducible refine LH.br_nt ?_
  | with_reducible refine LH.br_nf ?_
  | with_reducible refine LH.br_t ?_
  | with_reducible refine LH.br_f ?_)
local macro_rules | `(tactic| walk_at "rd") => `(tactic| repeat (walk_at "rd1"))
local macro_rules | `(tactic| walk_at "rs1") => `(tactic| first
  | with_reducible refine LH.x_seq ?_
  | with_reducible refine LH.x_cons ?_
  | with_reducible refine LH.x_var (by with_unfolding_all exact rfl) ?_
  | with_reducible refine LH.x_c ?_
  | with_reducible refine LH.x_op ?_
  | with_reducible refine LH.x_gname ?_
  | with_reducible refine LH.x_nil ?_
  | with_reducible refine LH.x_I0 ?_
  | ((with_reducible refine LH.x_I ?k1 ?_); (case k1 => first | exact (by decide) | exact ⟨by decide, by decide⟩ | exact ⟨by decide, by decide, by decide⟩ | exact .inl ⟨by decide, by decide⟩ | exact .inr ⟨by decide, by decide⟩ | exact .inr ⟨by omega, by omega⟩ | exact .inl ⟨by omega, by omega⟩ | exact (by omega)))
  | with_reducible refine LH.x_test ?_
  | with_reducible refine LH.x_tB ?_
  | with_reducible refine LH.bx ?_
  | with_reducible refine LH.x_and ?_
  | with_reducible refine LH.x_or ?_
  | with_reducible refine LH.x_not ?_
  | with_reducible refine LH.x_call ?_
  | with_reducible refine LH.x_cb ?_
  | with_reducible refine LH.x_lst ?_
  | with_reducible refine LH.x_tup ?_
  | with_reducible refine LH.x_bm ?_
  | with_reducible refine LH.x_next ?_
  | with_reducible refine LH.x_cont ?_
  | with_reducible refine LH.x_un ?_
  | with_reducible refine LH.x_U ?_
  | with_reducible refine LH.x_eq (by with_unfolding_all exact rfl) ?_
  | with_reducible refine LH.x_ne (by with_unfolding_all exact rfl) ?_
  | with_reducible refine LH.x_andV ?_
  | with_reducible refine LH.x_orV ?_
  | with_reducible refine LH.x_notV ?_
  | with_reducible refine LH.band ?_
  | with_reducible refine LH.bor ?_
  | with_reducible refine LH.x_if ?_
  | with_reducible refine LH.x_chain ?_
  | with_reducible refine LH.chk ?_
  | with_reducible refine LH.x_callS ?_
  | with_reducible refine LH.x_callE ?_
  | with_reducible refine LH.x_callV ?_
  | with_reducible refine LH.x_lrg ?_
  | with_reducible refine LH.x_lcS ?_
  | with_reducible refine LH.x_lcR1 ?_
  | with_reducible refine LH.strv ?_
  | with_reducible refine LH.x_yes ?_
  | with_reducible refine LH.x_sl ?_
  | with_reducible refine LH.x_noPart ?_
  | with_reducible refine LH.x_part ?_
  | with_reducible refine LH.pav ?_
  | with_reducible refine LH.x_jnv ?_
  | with_reducible refine LH.x_join ?_
  | with_reducible refine LH.x_inS ?_
  | with_reducible refine LH.x_niS ?_
  | with_reducible refine LH.x_isB ?_
  | with_reducible refine LH.x_isnB ?_
  | with_reducible refine LH.x_gcons ?_
  | with_reducible refine LH.x_gnil ?_
  | with_reducible refine LH.x_intB ?_
  | with_reducible refine LH.x_orT ?_
  | with_reducible refine LH.x_isTy ?_
  | with_reducible refine LH.x_niTy ?_
  | with_reducible refine LH.x_split ?_
  | with_reducible refine LH.x_spv ?_
  | with_reducible refine LH.x_gsub ?_
  | with_reducible refine LH.x_fmt ?_
  | with_reducible refine LH.x_js0 ?_
  | with_reducible refine LH.x_js ?_
  | with_reducible refine LH.x_rg1 ?_
  | with_reducible refine LH.x_abs ?_
  | with_reducible refine LH.x_rg2 ?_
  | with_reducible refine LH.rg1v ?_
  | with_reducible refine LH.rg2v ?_
  | with_reducible refine LH.x_lenSetG ?_
  | with_reducible refine LH.x_lc ?_
  | with_reducible refine LH.x_fld ?_
  | with_reducible refine LH.x_sfld ?_
  | with_reducible refine LH.x_afld ?_
  | with_reducible refine LH.x_meth ?_
  | with_reducible refine LH.x_make ?_
  | with_reducible refine LH.x_methSl ?_
  | with_reducible refine LH.x_makeSl ?_
  | with_reducible refine LH.x_din ?_
  | with_reducible refine LH.x_dni ?_
  | with_reducible refine LH.x_dget ?_
  | with_reducible refine LH.x_dput ?_
  | with_reducible refine LH.x_dget2 ?_
  | with_reducible refine LH.x_dpop1 ?_
  | with_reducible refine LH.x_litems ?_
  | with_reducible refine LH.x_tru ?_
  | with_reducible refine LH.x_revL ?_
  | with_reducible refine LH.x_dsetT ?_
  | with_reducible refine LH.x_lvals ?_
  | with_reducible refine LH.br_nt ?_
  | with_reducible refine LH.br_nf ?_
  | with_reducible refine LH.br_t ?_
  | with_reducible refine LH.br_f ?_)
local macro_rules | `(tactic| walk_at "rs") => `(tactic| repeat (walk_at "rs1"))

section
variable {P : Program} {w : World} {K : PySem.W.Frag} {mg : Str → Option Value} {base : Heap} {a : Ad}
def DispV (p : Addr) (ps : List (V × V)) (H2 : Hp) (Q : VK) : Prop := H2 p = some (.dK []) ∧ ∃ kvs : List (Key × V), ps = kvs.map (fun kv => (kV kv.1, kv.2)) ∧ kvs.length ≤ 15 ∧ Q (.ref p) (upd H2 p (.dK (mergeK [] kvs)))
theorem x_disp {trs : List (TE × TE)} {σ : L2.St} {H : Hp} {Q : VK} (h : ∀ p, H p = none → tPairs trs σ (upd H p (.dK [])) fun ps H2 => DispV p ps H2 Q) : tDisp trs σ H Q := h
theorem x_pairs {tk tv : TE} {r : List (TE × TE)} {σ : L2.St} {H : Hp} {Q : List (V × V) → Hp → Prop} (h : tk σ H fun x H1 => tv σ H1 fun y H2 => tPairs r σ H2 fun ps H3 => Q ((x, y) :: ps) H3) : tPairs ((tk, tv) :: r) σ H Q := h
theorem x_pairs0 {σ : L2.St} {H : Hp} {Q : List (V × V) → Hp → Prop} (q : Q [] H) : tPairs [] σ H Q := q
def spOwn : Sp := fun vs H Q _ => ∃ c o : Int, vs = [.int c, .int o] ∧ 1 ≤ c ∧ c ≤ 12 ∧ 0 ≤ o ∧ o < c ∧ ∀ (oa : OA) H', (∀ b ∈ oa.S, H b = none) → Same H H' → (∀ F, OwnAt F H' oa [] (HS.new c o)) → Q (.ref oa.o) H'
theorem ok__law_own (T : Txt K mg a) : FnOk P w K mg base CX0 2 a._law_own a.d__law_own ["_law_count", "_law_house"] spOwn := by
  have G__law_enough := ok__law_enough (P := P) (w := w) (base := base) T
  refine T.F__law_own.ok sc__law_own (fun vs H Q E h => ?_) (fun cdv A outer s H vs Q E hr h => ?_)
  · obtain ⟨c, o, rfl, _⟩ := h
    rfl
  · obtain ⟨c, o, rfl, c1, c2, o1, o2, k⟩ := h
    have HR__law_enough : Room 1 _ := hr.mono (by decide)
    refine ⟨_, (pss_cons (ps_set (i := 2) sc__law_own.nd rfl (Or.inl rfl) (pe_disp (pps_cons pe_str (pv 0) (pps_cons pe_str (pv 1) (pps_cons pe_str (pe_call G__law_enough HR__law_enough rfl T.g__law_enough T.F__law_enough.kp T.b__law_enough .nil pass0 (pa_cons (pv 0) pa_nil)) (pps_cons pe_str (pe_lst pa_nil) (pps_cons pe_str pe_dnewK pps_nil))))) rfl rfl (by intro h; cases h) (by decide)))
  (pss_cons (ps_dput (hu_of hr) (pv 2) pe_str pe_dnewK rfl)
  (pss_cons (ps_dput (hu_of hr) (pv 2) pe_str (pe_lst pa_nil) rfl)
  (pss_one (ps_ret (pv 2)))))), ?_⟩
    walk_at "rd"
    refine x_disp fun p hp => ?_
    have e0 : Same H (upd H p (.dK [])) := LH.Same.new hp
    have g0 : upd H p (.dK []) p = some (.dK []) := upd_same
    generalize upd H p (.dK []) = H0 at e0 g0
    refine x_pairs ?_
    walk_at "rd"
    refine x_pairs ?_
    walk_at "rd"
    refine x_pairs ?_
    walk_at "rd"
    refine ⟨c, rfl, c1, c2, ?_⟩
    refine x_pairs ?_
    walk_at "rd"
    refine LH.newl (LH.small rfl) fun kn H1 f1 e1 g1 => ?_
    refine x_pairs ?_
    walk_at "rd"
    refine LH.x_dnew fun ro H2 f2 e2 g2 => ?_
    refine x_pairs0 ?_
    have pk : p ≠ kn := fun e => by rw [e, f1] at g0; cases g0
    have pr : p ≠ ro := fun e => by rw [← e, e1 _ _ g0] at f2; cases f2
    refine ⟨(e1.trans e2) _ _ g0, [(.inr "count", .int c), (.inr "house", .int o), (.inr "wanted", .int (en c)), (.inr "known", .ref kn), (.inr "rows", .ref ro)], rfl, by show 5 ≤ 15; decide, ?_⟩
    have k3 : LH.Kp p H2 (upd H2 p (.dK (mergeK [] [(.inr "count", .int c), (.inr "house", .int o), (.inr "wanted", .int (en c)), (.inr "known", .ref kn), (.inr "rows", .ref ro)]))) := LH.Kp.upd
    have g3 : upd H2 p (.dK (mergeK [] [(.inr "count", .int c), (.inr "house", .int o), (.inr "wanted", .int (en c)), (.inr "known", .ref kn), (.inr "rows", .ref ro)])) p = some (.dK [(.inr "count", .int c), (.inr "house", .int o), (.inr "wanted", .int (en c)), (.inr "known", .ref kn), (.inr "rows", .ref ro)]) := upd_same
    generalize upd H2 p (.dK (mergeK [] [(.inr "count", .int c), (.inr "house", .int o), (.inr "wanted", .int (en c)), (.inr "known", .ref kn), (.inr "rows", .ref ro)])) = H3 at k3 g3
    walk_at "rd"
    refine LH.x_dnew fun ba H4 f4 e4 g4 => ?_
    walk_at "rd"
    refine LH.putvS (e4 _ _ g3) (by show 5 ≤ 100000; decide) fun H5 k5 g5 => ?_
    walk_at "rd"
    refine LH.newl (LH.small rfl) fun nm H6 f6 e6 g6 => ?_
    walk_at "rd"
    refine LH.putvS (e6 _ _ g5) (by show 6 ≤ 100000; decide) fun H7 k7 g7 => ?_
    walk_at "rd"
    have pb : p ≠ ba := fun e => by rw [← e, g3] at f4; cases f4
    have pn : p ≠ nm := fun e => by rw [← e, g5] at f6; cases f6
    have kr : kn ≠ ro := fun e => by rw [← e, g1] at f2; cases f2
    have g1' : H3 kn = some (.lst []) := k3 _ _ (e2 _ _ g1) pk.symm
    have g2' : H3 ro = some (.dK []) := k3 _ _ g2 pr.symm
    have kb : kn ≠ ba := fun e => by rw [← e, g1'] at f4; cases f4
    have rb : ro ≠ ba := fun e => by rw [← e, g2'] at f4; cases f4
    have up5 : ∀ y o, y ≠ p → H3 y = some o → H5 y = some o := fun y o n q => k5 _ _ (e4 _ _ q) n
    have knn : kn ≠ nm := fun e => by rw [← e, up5 _ _ pk.symm g1'] at f6; cases f6
    have rn : ro ≠ nm := fun e => by rw [← e, up5 _ _ pr.symm g2'] at f6; cases f6
    have bn : ba ≠ nm := fun e => by rw [← e, k5 _ _ g4 pb.symm] at f6; cases f6
    have upH : ∀ y v, H y = some v → y ≠ p := fun y v q => ne_of_none q hp
    have up3 : ∀ y v, H y = some v → H3 y = some v := fun y v q => k3 _ _ (e2 _ _ (e1 _ _ (e0 _ _ q))) (upH y v q)
    have up7 : ∀ y v, y ≠ p → H3 y = some v → H7 y = some v := fun y v n q => k7 _ _ (e6 _ _ (up5 y v n q)) n
    have no : ∀ y (Hx : Hp), Hx y = none → (∀ v, H y = some v → Hx y = some v) → H y = none := fun y Hx h f => by
      cases q : H y with
      | none => rfl
      | some v => rw [f v q] at h; cases h
    refine k ⟨p, kn, ro, ba, nm⟩ H7 (fun b hb => ?_) (fun y v q => up7 y v (upH y v q) (up3 y v q)) fun F => ?_
    · unfold OA.S at hb
      simp only [List.mem_cons, List.not_mem_nil, or_false] at hb
      rcases hb with rfl | rfl | rfl | rfl | rfl
      · exact hp
      · exact no _ _ f1 fun v q => e0 _ _ q
      · exact no _ _ f2 fun v q => e1 _ _ (e0 _ _ q)
      · exact no _ _ f4 fun v q => up3 _ _ q
      · exact no _ _ f6 fun v q => up5 _ _ (upH _ _ q) (up3 _ _ q)
    · refine ⟨g7, up7 _ _ pk.symm g1', (fun p hp => by cases hp), rfl, up7 _ _ pr.symm g2', ⟨[], k7 _ _ (e6 _ _ (k5 _ _ g4 pb.symm)) pb.symm, .nil⟩, ⟨[], k7 _ _ g6 pn.symm, .nil⟩, ?_, Good.new c1 c2 o1 o2, Mine.new c o⟩
      unfold OA.S
      simp only [List.nodup_cons, List.mem_cons, List.not_mem_nil, or_false, not_or, not_false_eq_true, List.nodup_nil, and_true]
      exact ⟨⟨pk, pr, pb, pn⟩, ⟨kr, kb, knn⟩, ⟨rb, rn⟩, bn⟩
def spLWord : Sp := fun vs H Q _ => ∃ (z bs c own : Int) (oa : OA), vs = [.int z, .ref oa.o, .int bs] ∧ H oa.o = some (.dK (ownK oa c own)) ∧ 2 ≤ c ∧ 0 ≤ own ∧ own < c ∧
  ∀ t H' u, Same H H' → H t = none → H' t = some (.tup (u : Wrd).vs) → u.Ok → 0 ≤ u.h → u.h < c → ¬ (u.k = "mark" ∧ u.h = own) → Q (.ref t) H'
theorem ok__law_word (T : Txt K mg a) : FnOk P w K mg base CX0 2 a._law_word a.d__law_word ["_law_cell", "_law_own_here", "_law_base"] spLWord := by
  have G__law_row := ok__law_row (P := P) (w := w) (base := base) T
  refine T.F__law_word.ok sc__law_word (fun vs H Q E h => ?_) (fun cdv A outer s H vs Q E hr h => ?_)
  · obtain ⟨z, bs, c, own, oa, rfl, _⟩ := h
    rfl
  · obtain ⟨z, bs, c, own, oa, rfl, ob, c1, o1, o2, k⟩ := h
    have cp : (0 : Int) < c := by omega
    have sayn : ¬ (("say" : Str) = "mark" ∧ True) := fun q => absurd q.1 (by decide)
    have HR__law_row : Room 1 _ := hr.mono (by decide)
    refine ⟨_, (pss_cons (ps_set (i := 3) sc__law_word.nd rfl (Or.inl rfl) (pe_op op_mod (pe_op op_fdiv (pv 0) pe_int) pe_int))
  (pss_cons (ps_set (i := 4) sc__law_word.nd rfl (Or.inl rfl) (pe_call G__law_row HR__law_row rfl T.g__law_row T.F__law_row.kp T.b__law_row .nil pass0 (pa_cons (pv 2) (pa_cons (pe_op op_mod (pe_op op_fdiv (pv 0) pe_int) pe_int) pa_nil))))
  (pss_cons (ps_if (pt_cmpR op_eq (pe_op op_mod (pv 0) pe_int) pe_int (nomark _))
    (pss_cons (ps_if (pt_cmpR op_eq (pe_op op_modN (pv 3) (pe_dget (hu_of hr) (pv 1) pe_str (fun _ _ => rfl))) (pe_dget (hu_of hr) (pv 1) pe_str (fun _ _ => rfl)) (nomark _))
      (pss_one (ps_set (i := 3) sc__law_word.nd rfl (Or.inl rfl) (pe_op op_add (pv 3) pe_int)))
      pss_nil)
    (pss_one (ps_ret (pe_tup (pa_cons pe_str (pa_cons (pv 3) (pa_cons (pv 4) (pa_cons (pe_op op_modN (pv 3) (pe_dget (hu_of hr) (pv 1) pe_str (fun _ _ => rfl))) pa_nil))))))))
    pss_nil)
  (pss_cons (ps_set (i := 5) sc__law_word.nd rfl (Or.inl rfl) (pe_op op_modN (pe_op op_fdiv (pv 0) pe_int) (pe_dget (hu_of hr) (pv 1) pe_str (fun _ _ => rfl))))
  (pss_cons (ps_if (pt_cmpR op_eq (pv 5) (pe_dget (hu_of hr) (pv 1) pe_str (fun _ _ => rfl)) (nomark _))
    (pss_one (ps_set (i := 5) sc__law_word.nd rfl (Or.inl rfl) (pe_op op_modN (pe_op op_add (pv 5) pe_int) (pe_dget (hu_of hr) (pv 1) pe_str (fun _ _ => rfl)))))
    pss_nil)
  (pss_one (ps_ret (pe_tup (pa_cons pe_str (pa_cons (pv 3) (pa_cons (pv 4) (pa_cons (pv 5) pa_nil)))))))))))), ?_⟩
    walk_at "rd"
    refine ⟨bs, _, rfl, fun H1 e1 => ?_⟩
    walk_at "rd"
    have ob1 := e1 _ _ ob
    refine LH.br_d (fun _ => ?_) (fun _ => ?_)
    · walk_at "rs"
      refine LH.cutS (fun σ' H' => ∃ n : Int, σ' = [some (.int z), some (.ref oa.o), some (.int bs), some (.int n), some (.str (rowF bs (z / 6 % 3))), none] ∧ H' = H1) (fun N hN => ?_) ?_
      · walk_at "rd"
        refine LH.getv (LH.getS ob1) rfl ?_
        walk_at "rd"
        refine LH.getv (LH.getS ob1) rfl ?_
        walk_at "rd"
        refine LH.br_d (fun _ => ?_) (fun _ => ?_)
        · walk_at "rd"
          exact hN _ _ ⟨_, rfl, rfl⟩
        · walk_at "rd"
          exact hN _ _ ⟨_, rfl, rfl⟩
      rintro σ' H' ⟨n, rfl, rfl⟩
      walk_at "rd"
      refine LH.getv (LH.getS ob1) rfl ?_
      walk_at "rd"
      refine LH.newt (LH.small rfl) fun t H2 f2 e2 g2 => ?_
      exact k t H2 ⟨"say", n, rowF bs (z / 6 % 3), n.fmod c⟩ (e1.trans e2) (LH.Same.none e1 f2) g2 ⟨ok_sayW, rowF_ok _ _⟩ (Int.fmod_nonneg_of_pos _ cp) (Int.fmod_lt_of_pos _ cp) fun q => absurd q.1 (show ¬ (("say" : Str) = "mark") by decide)
    · walk_at "rd"
      refine LH.getv (LH.getS ob1) rfl ?_
      walk_at "rs"
      refine LH.cutS (fun σ' H' => ∃ g : Int, σ' = [some (.int z), some (.ref oa.o), some (.int bs), some (.int (z / 2 % 3)), some (.str (rowF bs (z / 6 % 3))), some (.int g)] ∧ H' = H1 ∧ 0 ≤ g ∧ g < c ∧ g ≠ own) (fun N hN => ?_) ?_
      · walk_at "rd"
        refine LH.getv (LH.getS ob1) rfl ?_
        walk_at "rd"
        have m1 := Int.fmod_nonneg_of_pos (z / 18) cp
        have m2 := Int.fmod_lt_of_pos (z / 18) cp
        rw [dint]
        by_cases c3 : (z / 18).fmod c = own
        · rw [decide_eq_true c3]
          walk_at "rd"
          refine LH.getv (LH.getS ob1) rfl ?_
          walk_at "rd"
          refine hN _ _ ⟨_, rfl, rfl, Int.fmod_nonneg_of_pos _ cp, Int.fmod_lt_of_pos _ cp, fun q => ?_⟩
          rw [c3] at q
          rw [Int.fmod_eq_emod_of_nonneg _ (by omega)] at q
          by_cases c4 : own + 1 = c
          · rw [c4, Int.emod_self] at q
            omega
          · rw [Int.emod_eq_of_lt (by omega) (by omega)] at q
            omega
        · rw [decide_eq_false c3]
          walk_at "rd"
          exact hN _ _ ⟨_, rfl, rfl, m1, m2, c3⟩
      rintro σ' H' ⟨g, rfl, rfl, g1, g2, g3⟩
      walk_at "rd"
      refine LH.newt (LH.small rfl) fun t H2 f2 e2 gt => ?_
      exact k t H2 ⟨"mark", z / 2 % 3, rowF bs (z / 6 % 3), g⟩ (e1.trans e2) (LH.Same.none e1 f2) gt ⟨ok_markW, rowF_ok _ _⟩ g1 g2 fun q => g3 q.2
end
end K6
namespace K6
open PySem L2 LM HM
local macro_rules | `(tactic| walk_at "rd1") => `(tactic| first
  | with_reducible refine LH.x_seq ?_
  | with_reducible refine LH.x_asg ?_
  | with_reducible refine LH.x_cons ?_
  | with_reducible refine LH.x_var (by with_unfolding_all exact rfl) ?_
  | with_reducible refine LH.x_c ?_
  | with_reducible refine LH.x_op ?_
  | with_reducible refine LH.x_gname ?_
  | with_reducible refine LH.x_nil ?_
  | with_reducible refine LH.x_I0 ?_
  | ((with_reducible refine LH.x_I ?k1 ?_); (case k1 => first | exact (by decide) | exact ⟨by decide, by decide⟩ | exact ⟨by decide, by decide, by decide⟩ | exact .inl ⟨by decide, by decide⟩ | exact .inr ⟨by decide, by decide⟩ | exact .inr ⟨by omega, by omega⟩ | exact .inl ⟨by omega, by omega⟩ | exact (by omega)))
  | with_reducible refine LH.x_ifS ?_
  | with_reducible refine LH.x_test ?_
  | with_reducible refine LH.x_tB ?_
  | with_reducible refine LH.bx ?_
  | with_reducible refine LH.x_and ?_
  | with_reducible refine LH.x_or ?_
  | with_reducible refine LH.x_not ?_
  | with_reducible refine LH.x_ret ?_
  | with_reducible refine LH.x_call ?_
  | with_reducible refine LH.x_cb ?_
  | with_reducible refine LH.x_lst ?_
  | with_reducible refine LH.x_tup ?_
  | with_reducible refine LH.x_bm ?_
  | with_reducible refine LH.x_drop ?_
  | with_reducible refine LH.x_next ?_
  | with_reducible refine LH.x_cont ?_
  | with_reducible refine LH.x_un ?_
  | with_reducible refine LH.x_U ?_
  | with_reducible refine LH.x_eq (by with_unfolding_all exact rfl) ?_
  | with_reducible refine LH.x_ne (by with_unfolding_all exact rfl) ?_
  | with_reducible refine LH.x_andV ?_
  | with_reducible refine LH.x_orV ?_
  | with_reducible refine LH.x_notV ?_
  | with_reducible refine LH.band ?_
  | with_reducible refine LH.bor ?_
  | with_reducible refine LH.x_if ?_
  | with_reducible refine LH.x_chain ?_
  | with_reducible refine LH.chk ?_
  | with_reducible refine LH.x_callS ?_
  | with_reducible refine LH.x_callE ?_
  | with_reducible refine LH.x_callV ?_
  | with_reducible refine LH.x_lrg ?_
  | with_reducible refine LH.x_lcS ?_
  | with_reducible refine LH.x_lcR1 ?_
  | with_reducible refine LH.x_forR1 ?_
  | with_reducible refine LH.x_forR3 ?_
  | with_reducible refine LH.strv ?_
  | with_reducible refine LH.x_yes ?_
  | with_reducible refine LH.x_sl ?_
  | with_reducible refine LH.x_noPart ?_
  | with_reducible refine LH.x_part ?_
  | with_reducible refine LH.pav ?_
  | with_reducible refine LH.x_jnv ?_
  | with_reducible refine LH.x_join ?_
  | with_reducible refine LH.x_inS ?_
  | with_reducible refine LH.x_niS ?_
  | with_reducible refine LH.x_isB ?_
  | with_reducible refine LH.x_isnB ?_
  | with_reducible refine LH.x_gcons ?_
  | with_reducible refine LH.x_gnil ?_
  | with_reducible refine LH.x_intB ?_
  | with_reducible refine LH.x_orT ?_
  | with_reducible refine LH.x_isTy ?_
  | with_reducible refine LH.x_niTy ?_
  | with_reducible refine LH.x_split ?_
  | with_reducible refine LH.x_spv ?_
  | with_reducible refine LH.x_gsub ?_
  | with_reducible refine LH.x_fmt ?_
  | with_reducible refine LH.x_js0 ?_
  | with_reducible refine LH.x_js ?_
  | with_reducible refine LH.x_rg1 ?_
  | with_reducible refine LH.x_forL ?_
  | with_reducible refine LH.x_abs ?_
  | with_reducible refine LH.x_rg2 ?_
  | with_reducible refine LH.rg1v ?_
  | with_reducible refine LH.rg2v ?_
  | with_reducible refine LH.x_forR2 ?_
  | with_reducible refine LH.x_lenSetG ?_
  | with_reducible refine LH.x_lc ?_
  | with_reducible refine LH.x_fld ?_
  | with_reducible refine LH.x_sfld ?_
  | with_reducible refine LH.x_afld ?_
  | with_reducible refine LH.x_meth ?_
  | with_reducible refine LH.x_make ?_
  | with_reducible refine LH.x_methSl ?_
  | with_reducible refine LH.x_makeSl ?_
  | with_reducible refine LH.x_din ?_
  | with_reducible refine LH.x_dni ?_
  | with_reducible refine LH.x_dget ?_
  | with_reducible refine LH.x_dput ?_
  | with_reducible refine LH.x_dget2 ?_
  | with_reducible refine LH.x_dpop1 ?_
  | with_reducible refine LH.x_litems ?_
  | with_reducible refine LH.x_tru ?_
  | with_reducible refine LH.x_revL ?_
  | with_reducible refine LH.x_dsetT ?_
  | with_reducible refine LH.x_lvals ?_
  | with_reducible refine LH.br_nt ?_
  | with_reducible refine LH.br_nf ?_
  | with_reducible refine LH.br_t ?_
  | with_reducible refine LH.br_f ?_)
local macro_rules | `(tactic| walk_at "rd") => `(tactic| repeat (walk_at "rd1"))
local macro_rules | `(tactic| walk_at "rs1") => `(tactic| first
  | with_reducible refine LH.x_seq ?_
  | with_reducible refine LH.x_cons ?_
  | with_reducible refine LH.x_var (by with_unfolding_all exact rfl) ?_
  | with_reducible refine LH.x_c ?_
  | with_reducible refine LH.x_op ?_
  | with_reducible refine LH.x_gname ?_
  | with_reducible refine LH.x_nil ?_
  | with_reducible refine LH.x_I0 ?_
  | ((with_reducible refine LH.x_I ?k1 ?_); (case k1 => first | exact (by decide) | exact ⟨by decide, by decide⟩ | exact ⟨by decide, by decide, by decide⟩ | exact .inl ⟨by decide, by decide⟩ | exact .inr ⟨by decide, by decide⟩ | exact .inr ⟨by omega, by omega⟩ | exact .inl ⟨by omega, by omega⟩ | exact (by omega)))
  | with_reducible refine LH.x_test ?_
  | with_reducible refine LH.x_tB ?_
  | with_reducible refine LH.bx ?_
  | with_reducible refine LH.x_and ?_
  | with_reducible refine LH.x_or ?_
  | with_reducible refine LH.x_not ?_
  | with_reducible refine LH.x_call ?_
  | with_reducible refine LH.x_cb ?_
  | with_reducible refine LH.x_lst ?_
  | with_reducible refine LH.x_tup ?_
  | with_reducible refine LH.x_bm ?_
  | with_reducible refine LH.x_next ?_
  | with_reducible refine LH.x_cont ?_
  | with_reducible refine LH.x_un ?_
  | with_reducible refine LH.x_U ?_
  | with_reducible refine LH.x_eq (by with_unfolding_all exact rfl) ?_
  | with_reducible refine LH.x_ne (by with_unfolding_all exact rfl) ?_
  | with_reducible refine LH.x_andV ?_
  | with_reducible refine LH.x_orV ?_
  | with_reducible refine LH.x_notV ?_
  | with_reducible refine LH.band ?_
  | with_reducible refine LH.bor ?_
  | with_reducible refine LH.x_if ?_
  | with_reducible refine LH.x_chain ?_
  | with_reducible refine LH.chk ?_
  | with_reducible refine LH.x_callS ?_
  | with_reducible refine LH.x_callE ?_
  | with_reducible refine LH.x_callV ?_
  | with_reducible refine LH.x_lrg ?_
  | with_reducible refine LH.x_lcS ?_
  | with_reducible refine LH.x_lcR1 ?_
  | with_reducible refine LH.strv ?_
  | with_reducible refine LH.x_yes ?_
  | with_reducible refine LH.x_sl ?_
  | with_reducible refine LH.x_noPart ?_
  | with_reducible refine LH.x_part ?_
  | with_reducible refine LH.pav ?_
  | with_reducible refine LH.x_jnv ?_
  | with_reducible refine LH.x_join ?_
  | with_reducible refine LH.x_inS ?_
  | with_reducible refine LH.x_niS ?_
  | with_reducible refine LH.x_isB ?_
  | with_reducible refine LH.x_isnB ?_
  | with_reducible refine LH.x_gcons ?_
  | with_reducible refine LH.x_gnil ?_
  | with_reducible refine LH.x_intB ?_
  | with_reducible refine LH.x_orT ?_
  | with_reducible refine LH.x_isTy ?_
  | with_reducible refine LH.x_niTy ?_
  | with_reducible refine LH.x_split ?_
  | with_reducible refine LH.x_spv ?_
  | with_reducible refine LH.x_gsub ?_
  | with_reducible refine LH.x_fmt ?_
  | with_reducible refine LH.x_js0 ?_
  | with_reducible refine LH.x_js ?_
  | with_reducible refine LH.x_rg1 ?_
  | with_reducible refine LH.x_abs ?_
  | with_reducible refine LH.x_rg2 ?_
  | with_reducible refine LH.rg1v ?_
  | with_reducible refine LH.rg2v ?_
  | with_reducible refine LH.x_lenSetG ?_
  | with_reducible refine LH.x_lc ?_
  | with_reducible refine LH.x_fld ?_
  | with_reducible refine LH.x_sfld ?_
  | with_reducible refine LH.x_afld ?_
  | with_reducible refine LH.x_meth ?_
  | with_reducible refine LH.x_make ?_
  | with_reducible refine LH.x_methSl ?_
  | with_reducible refine LH.x_makeSl ?_
  | with_reducible refine LH.x_din ?_
  | with_reducible refine LH.x_dni ?_
  | with_reducible refine LH.x_dget ?_
  | with_reducible refine LH.x_dput ?_
  | with_reducible refine LH.x_dget2 ?_
  | with_reducible refine LH.x_dpop1 ?_
  | with_reducible refine LH.x_litems ?_
  | with_reducible refine LH.x_tru ?_
  | with_reducible refine LH.x_revL ?_
  | with_reducible refine LH.x_dsetT ?_
  | with_reducible refine LH.x_lvals ?_
  | with_reducible refine LH.br_nt ?_
  | with_reducible refine LH.br_nf ?_
  | with_reducible refine LH.br_t ?_
  | with_reducible refine LH.br_f ?_)
local macro_rules | `(tactic| walk_at "rs") => `(tactic| repeat (walk_at "rs1"))

section
variable {P : Program} {w : World} {K : PySem.W.Frag} {mg : Str → Option Value} {base : Heap} {a : Ad}
def isI : V → Bool
  | .int _ => true
  | _ => false
def spLWhole (K : PySem.W.Frag) : Sp := fun vs H Q _ => ∃ x T, vs = [x] ∧ TyB K H x T ∧ Q (.bl (isI x)) H
theorem ok__law_whole (T : Txt K mg a) : FnOk P w K mg base CX0 1 a._law_whole a.d__law_whole ["_law_thing"] (spLWhole K) := by
  refine T.F__law_whole.ok sc__law_whole (fun vs H Q E h => ?_) (fun cdv A outer s H vs Q E hr h => ?_)
  · obtain ⟨x, t, rfl, _⟩ := h
    rfl
  · obtain ⟨x, t, rfl, ht, k⟩ := h
    refine ⟨_, (pss_one (ps_ret (pe_and (pe_callB (r := rIsi K) call_isi rfl T.n_isinstance (by decide +kernel) (pa_cons (pv 0) (pa_cons (pe_bltn (v := .ty "int") rfl T.n_int (by decide +kernel) rfl) pa_nil))) (pe_one (pe_not (pe_callB (r := rIsi K) call_isi rfl T.n_isinstance (by decide +kernel) (pa_cons (pv 0) (pa_cons (pe_bltn (v := .ty "bool") rfl T.n_bool (by decide +kernel) rfl) pa_nil)))))))), ?_⟩
    walk_at "rd"
    have ht' := ht
    cases ht with
    | int i =>
      refine LH.x_isiT (b := true) ht' (by decide +kernel) ?_
      walk_at "rd"
      refine LH.x_isiT (b := false) ht' (by decide +kernel) ?_
      walk_at "rd"
      exact k
    | bl i =>
      refine LH.x_isiT (b := true) ht' (by decide +kernel) ?_
      walk_at "rd"
      refine LH.x_isiT (b := true) ht' (by decide +kernel) ?_
      walk_at "rd"
      exact k
    | _ =>
      refine LH.x_isiT (b := false) ht' (by decide +kernel) ?_
      walk_at "rd"
      exact k
def spWords : Sp := fun vs H Q _ => ∃ r xs ws, vs = [.ref r] ∧ H r = some (.lst xs) ∧ TW H xs ws ∧ Q (.bl true) H
theorem ok__law_words (T : Txt K mg a) : FnOk P w K mg base CX0 2 a._law_words a.d__law_words ["_law_found"] spWords := by
  have G__law_whole := ok__law_whole (P := P) (w := w) (base := base) T
  refine T.F__law_words.ok sc__law_words (fun vs H Q E h => ?_) (fun cdv A outer s H vs Q E hr h => ?_)
  · obtain ⟨r, xs, ws, rfl, _⟩ := h
    rfl
  · obtain ⟨r, xs, ws, rfl, g, tw, k⟩ := h
    have HR__law_whole : Room 1 _ := hr.mono (by decide)
    refine ⟨_, (pss_cons (ps_if (pt_not (pt_val (pe_callB (r := rIsi K) call_isi rfl T.n_isinstance (by decide +kernel) (pa_cons (pv 0) (pa_cons (pe_bltn (v := .ty "list") rfl T.n_list (by decide +kernel) rfl) pa_nil)))))
    (pss_one (ps_ret pe_bl))
    pss_nil)
  (pss_cons (ps_for PassesOwn.never rfl (pi_list (pv 0)) (pg_name (i := 1) sc__law_words.nd rfl (Or.inl rfl))
    (pss_one (ps_if (PW.pt (pw_or (pt_not (pt_val (pe_callB (r := rIsi K) call_isi rfl T.n_isinstance (by decide +kernel) (pa_cons (pv 1) (pa_cons (pe_bltn (v := .ty "tuple") rfl T.n_tuple (by decide +kernel) rfl) pa_nil))))) (pw_or (pt_cmpR op_ne (pe_callB (r := LH.rLen K) LH.call_len rfl T.n_len (by decide +kernel) (pa_cons (pv 1) pa_nil)) pe_int (nomark _)) (pw_or (pt_not (pt_val (pe_call G__law_whole HR__law_whole rfl T.g__law_whole T.F__law_whole.kp T.b__law_whole .nil pass0 (pa_cons (pe_ix (r := rIxT K) ix_tup (pv 1) pe_int (fun _ _ => rfl)) pa_nil)))) (pw_or1 (pt_not (pt_val (pe_call G__law_whole HR__law_whole rfl T.g__law_whole T.F__law_whole.kp T.b__law_whole .nil pass0 (pa_cons (pe_ix (r := rIxT K) ix_tup (pv 1) pe_int (fun _ _ => rfl)) pa_nil)))))))))
      (pss_one (ps_ret pe_bl))
      pss_nil)))
  (pss_one (ps_ret pe_bl)))), ?_⟩
    walk_at "rd"
    refine LH.x_isiT (b := true) (.lst (SqL.of g)) (by decide +kernel) ?_
    walk_at "rd"
    refine LH.for_Lg (SqL.of g) (fun i σ H' => (∃ o, σ = [some (.ref r), o]) ∧ H' = H) ⟨⟨_, rfl⟩, rfl⟩ (fun i σ H' _ p => by rw [p.2]; exact SqL.of g) ?_ ?_
    · rintro i x σ Ha hx ⟨⟨o, rfl⟩, rfl⟩
      obtain ⟨u, _, t, rfl, ht⟩ := paired_left tw x (List.mem_of_getElem? hx)
      walk_at "rd"
      refine LH.x_isiT (b := true) (.tup (SqT.of ht)) (by decide +kernel) ?_
      walk_at "rd"
      refine LH.x_lenT (SqT.of ht) ?_
      walk_at "rd"
      refine LH.br_eq (b' := false) rfl ?_
      walk_at "rd"
      refine LH.x_ixT (SqT.of ht) rfl ?_
      refine ⟨_, _, rfl, .int _, ?_⟩
      walk_at "rd"
      refine LH.br_eq (b' := false) rfl ?_
      walk_at "rd"
      refine LH.x_ixT (SqT.of ht) rfl ?_
      refine ⟨_, _, rfl, .int _, ?_⟩
      walk_at "rd"
      refine LH.br_eq (b' := false) rfl ?_
      walk_at "rd"
      exact ⟨⟨_, rfl⟩, rfl⟩
    · rintro σ Ha ⟨⟨o, rfl⟩, rfl⟩
      walk_at "rd"
      exact k
def spUnw (C : Addr) : Sp := fun vs H Q _ => ∃ h st F n, vs = [.ref (h : HA).p, .int n] ∧ HouseAt C F H h st ∧ Same F H ∧ (st.backs.find? fun e => decide (e.1 = n)) = none ∧ ∀ H', Same H H' → Q (.bl true) H'
theorem ok__law_unwritten (T : Txt K mg a) : FnOk P w K mg base CX0 2 a._law_unwritten a.d__law_unwritten ["_law_house", "_law_number"] (spUnw a.House) := by
  have G_House_backing := ok_House_backing (P := P) (w := w) (base := base) T
  refine T.F__law_unwritten.ok sc__law_unwritten (fun vs H Q E h => ?_) (fun cdv A outer s H vs Q E hr h => ?_)
  · obtain ⟨h, st, F, n, rfl, _⟩ := h
    rfl
  · obtain ⟨h, st, F, n, rfl, S, sF, nf, k⟩ := h
    obtain ⟨dx, hp⟩ := S.ob
    have HR_House_backing : Room 1 _ := hr.mono (by decide)
    let TB : WX → TS := fun W => tDrop (LH.tMethSl a.House "backing" (spBacking K a.House a.NotWritten) (WE W) (tVar 0) (tCons (tVar 1) tNil))
    let TSU : Addr → Value → Option Addr → TS := fun _ _ _ => tRet (tC (.bl true))
    refine ⟨_, (pss_cons (L2H.ps_try_onlyX (Wout := fun _ _ _ _ => False) (tb := TB) (ts := TSU) rfl rfl ⟨rfl, by decide, .inl T.g_NotWritten⟩ (fun _ => PassesOwnAt.never) LH.takesB0
    (fun W pn xe tk _ _ => (by exact (pss_one (ps_expr (LH.pe_methSl (pv 0) T.cl_House T.me_House_backing G_House_backing HR_House_backing T.b_House_backing (fun σ => L2N.passAt tk σ) (pa_cons (pv 1) pa_nil))))))
    (fun e oe cls d pn hz hf _ _ => (by exact (pss_one (ps_ret pe_bl)))))
  (pss_one (ps_ret pe_bl))), ?_⟩
    walk_at "rd"
    refine LH.methv hp rfl ?_
    walk_at "rd"
    refine ⟨h, st, F, .int n, _, rfl, S, sF, .int n, .inr ⟨fun i e => by injection e with e; subst e; exact nf, true, T.es_NotWritten, fun _ e he => ?_, fun q => nomatch q⟩⟩
    show tRet _ _ _ _
    walk_at "rd"
    exact k _ (Same.refl _)
def ndat (z : Int × Wrd × Wrd) : PyData := .tuple [.int z.1, z.2.1.dat, z.2.2.dat]
theorem names_dp {F H : Hp} (s : Same F H) : ∀ {ns : List V} {l : List (Int × Wrd × Wrd)}, Paired (Nm F) ns l → DpAll K H ns (l.map ndat)
  | _, _, .nil => .nil
  | _, _, .cons q r => by
    obtain ⟨t, v1, v2, rfl, ht, w1, w2⟩ := q
    exact .cons (.tup (SqT.of (s _ _ ht)) (.cons (.int _) (.cons (w1.up s).dp (.cons (w2.up s).dp .nil)))) (names_dp s r)
theorem lay_names {st : HS} (g : Good st) : Lay 4 (.list (st.named.map ndat)) := lay_list fun d hd => by
  obtain ⟨z, hz, rfl⟩ := List.mem_map.mp hd
  refine lay_tup fun d hd => ?_
  simp only [List.mem_cons, List.not_mem_nil, or_false] at hd
  rcases hd with rfl | rfl | rfl
  · exact lay_int _
  · exact Wrd.lay (g.wd _ (g.nk z hz).1).1
  · exact Wrd.lay (g.wd _ (g.nk z hz).2).1
theorem words_dp {F H : Hp} (s : Same F H) : ∀ {xs : List V} {ws : List Wrd}, TW F xs ws → DpAll K H xs (ws.map Wrd.dat)
  | _, _, .nil => .nil
  | _, _, .cons q r => .cons (q.up s).dp (words_dp s r)
theorem keys_of {α : Type} {F : Key × V → α → Prop} {f : α → Int} (hf : ∀ e x, F e x → e.1 = Sum.inl (f x)) : ∀ {kvs : List (Key × V)} {l : List α}, Paired F kvs l → kvs.map (·.1) = (l.map f).map Sum.inl
  | _, _, .nil => rfl
  | _, _, .cons q r => by rw [List.map_cons, List.map_cons, List.map_cons, keys_of hf r, hf _ _ q]
theorem back_ok {st : HS} (g : Good st) {e : Int × List Wrd} (h : e ∈ st.backs) : ∀ w ∈ e.2, w.Ok := fun w hw => (g.wd w (g.bk e h w hw)).1
def spTurned (C : Addr) : Sp := fun vs H Q _ => ∃ (h : HA) (st : HS) (F : Hp) (oa : OA) (l : List VW), vs = [.ref h.p, .ref oa.o] ∧ HouseAt C F H h st ∧ OwnAt F H oa l st ∧ Same F H ∧ st.rows.length < 64 ∧ ∀ H', Same H H' → Q (.bl true) H'
theorem ok__law_turned (T : Txt K mg a) : FnOk P w K mg base CX0 2 a._law_turned a.d__law_turned ["_law_house", "_law_own_here"] (spTurned a.House) := by
  have G_House_backing := ok_House_backing (P := P) (w := w) (base := base) T
  have G_House_caught := ok_House_caught (P := P) (w := w) (base := base) T
  refine T.F__law_turned.ok sc__law_turned (fun vs H Q E h => ?_) (fun cdv A outer s H vs Q E hr h => ?_)
  · obtain ⟨h, st, F, oa, l, rfl, _⟩ := h
    rfl
  · obtain ⟨h, st, F, oa, l, rfl, S, O, sF, sz, k⟩ := h
    obtain ⟨dx, hp⟩ := S.ob
    obtain ⟨kvb, gb, pb⟩ := O.ba
    obtain ⟨ns, gn, pn⟩ := O.nm
    have go := O.go
    have HR_House_backing : Room 1 _ := hr.mono (by decide)
    have HR_House_caught : Room 1 _ := hr.mono (by decide)
    refine ⟨_, (pss_cons (ps_for PassesOwn.never rfl (pi_list (pe_callB (LH.call_srtD rfl) rfl T.n_sorted (by decide +kernel) (pa_cons (pe_dget (hu_of hr) (pv 1) pe_str (fun _ _ => rfl)) pa_nil))) (pg_name (i := 2) sc__law_turned.nd rfl (Or.inl rfl))
    (pss_one (ps_if (pt_cmpR (r := rNeD K) (op_neD hr.units) (pe_meth (pv 0) T.cl_House T.me_House_backing G_House_backing HR_House_backing T.b_House_backing .nil LH.passN (pa_cons (pv 2) pa_nil)) (pe_dget (hu_of hr) (pe_dget (hu_of hr) (pv 1) pe_str (fun _ _ => rfl)) (pv 2) (fun _ _ => rfl)) (nomark _))
      (pss_one (ps_ret pe_bl))
      pss_nil)))
  (pss_one (ps_ret (pe_cmpR (r := rEqD K) (op_eqD hr.units) (pe_meth0 (pv 0) T.cl_House T.me_House_caught G_House_caught HR_House_caught T.b_House_caught .nil pass0) (pe_dget (hu_of hr) (pv 1) pe_str (fun _ _ => rfl)) (nomark _))))), ?_⟩
    walk_at "rd"
    refine LH.getv (LH.getS O.ob) rfl ?_
    walk_at "rd"
    have lb : st.backs.length = st.rows.length := by
      have := congrArg List.length go.bn
      rwa [List.length_map, List.length_map] at this
    refine LH.x_srtD (ks := st.backs.map (·.1)) gb (keys_of (fun _ _ q => q.1) pb) (by rw [List.length_map]; omega) fun ys p1 H1 per so f1 e1 g1 => ?_
    refine LH.for_Lg (SqL.of g1) (fun i σ H' => (∃ o, σ = [some (.ref h.p), some (.ref oa.o), o]) ∧ Same H1 H') ⟨⟨_, rfl⟩, Same.refl _⟩ (fun i σ H' _ p => SqL.of (p.2 _ _ g1)) ?_ ?_
    · rintro i x σ Ha hx ⟨⟨o, rfl⟩, ea⟩
      obtain ⟨n, hn, rfl⟩ := List.mem_map.mp (List.mem_of_getElem? hx)
      have e1a := e1.trans ea
      have Sa : HouseAt a.House F Ha h st := S.to (Same.refl _) fun b o _ q => e1a _ _ q
      have Oa := O.to (Same.refl _) fun b o _ q => e1a _ _ q
      obtain ⟨e0, he0, en⟩ := List.mem_map.mp (per.mem_iff.mp hn)
      obtain ⟨ws, hws⟩ : ∃ ws, (st.backs.find? fun e => decide (e.1 = n)) = some (n, ws) := by
        cases q : st.backs.find? fun e => decide (e.1 = n) with
        | none =>
          have := List.find?_eq_none.mp q e0 he0
          simp [en] at this
        | some e =>
          have : e.1 = n := by simpa using List.find?_some q
          exact ⟨e.2, by rw [← this]⟩
      have okw : ∀ w ∈ ws, w.Ok := back_ok go (List.mem_of_find?_eq_some hws)
      obtain ⟨dxa, hpa⟩ := Sa.ob
      walk_at "rd"
      refine LH.methv hpa rfl ?_
      walk_at "rd"
      refine ⟨h, st, F, .int n, _, rfl, Sa, sF.trans e1a, .int n, .inl ⟨n, ws, rfl, hws, fun r Hb xs fb eb gr tw => ?_⟩⟩
      walk_at "rd"
      refine LH.getv (LH.getS (eb _ _ Oa.ob)) rfl ?_
      walk_at "rd"
      obtain ⟨v, hv, ⟨b', xs', rfl, hb', tw'⟩⟩ := (paired_get (f := fun x : Int × List Wrd => x.1) (G := fun v x => Bk F v x.2) (fun _ _ q => q) (n := n) pb).2 _ hws
      refine LH.getv (LH.getI ((e1a.trans eb) _ _ gb)) hv ?_
      have sb := sF.trans (e1a.trans eb)
      refine LH.x_neD (.lst (SqL.of gr) (words_dp sb tw)) (.lst (SqL.of (sb _ _ hb')) (words_dp sb tw')) (lay_words okw).shaped (lay_words okw).shaped ?_
      rw [(lay_words okw).refl]
      walk_at "rd"
      exact ⟨⟨_, rfl⟩, ea.trans eb⟩
    · rintro σ Ha ⟨⟨o, rfl⟩, ea⟩
      have e1a := e1.trans ea
      have Sa : HouseAt a.House F Ha h st := S.to (Same.refl _) fun b o _ q => e1a _ _ q
      have Oa := O.to (Same.refl _) fun b o _ q => e1a _ _ q
      obtain ⟨dxa, hpa⟩ := Sa.ob
      walk_at "rd"
      refine LH.methv hpa rfl ?_
      walk_at "rd"
      refine ⟨h, st, F, rfl, Sa, fun r Hb kvn fb eb _ gr pr => ?_⟩
      walk_at "rd"
      refine LH.getv (LH.getS (eb _ _ Oa.ob)) rfl ?_
      have sb := sF.trans (e1a.trans eb)
      refine LH.x_eqD (.lst (SqL.of gr) (names_dp sb pr)) (.lst (SqL.of ((e1a.trans eb) _ _ gn)) (names_dp sb pn)) (lay_names go).shaped (lay_names go).shaped ?_
      rw [(lay_names go).refl]
      exact k _ (e1a.trans eb)
end
end K6
namespace K6
open PySem L2 LM HM
local macro_rules | `(tactic| walk_at "rd1") => `(tactic| first
  | with_reducible refine LH.x_seq ?_
  | with_reducible refine LH.x_asg ?_
  | with_reducible refine LH.x_cons ?_
  | with_reducible refine LH.x_var (by with_unfolding_all exact rfl) ?_
  | with_reducible refine LH.x_c ?_
  | with_reducible refine LH.x_op ?_
  | with_reducible refine LH.x_gname ?_
  | with_reducible refine LH.x_nil ?_
  | with_reducible refine LH.x_I0 ?_
  | ((with_reducible refine LH.x_I ?k1 ?_); (case k1 => first | exact (by decide) | exact ⟨by decide, by decide⟩ | exact ⟨by decide, by decide, by decide⟩ | exact .inl ⟨by decide, by decide⟩ | exact .inr ⟨by decide, by decide⟩ | exact .inr ⟨by omega, by omega⟩ | exact .inl ⟨by omega, by omega⟩ | exact (by omega)))
  | with_reducible refine LH.x_ifS ?_
  | with_reducible refine LH.x_test ?_
  | with_reducible refine LH.x_tB ?_
  | with_reducible refine LH.bx ?_
  | with_reducible refine LH.x_and ?_
  | with_reducible refine LH.x_or ?_
  | with_reducible refine LH.x_not ?_
  | with_reducible refine LH.x_ret ?_
  | with_reducible refine LH.x_call ?_
  | with_reducible refine LH.x_cb ?_
  | with_reducible refine LH.x_lst ?_
  | with_reducible refine LH.x_tup ?_
  | with_reducible refine LH.x_bm ?_
  | with_reducible refine LH.x_drop ?_
  | with_reducible refine LH.x_next ?_
  | with_reducible refine LH.x_cont ?_
  | with_reducible refine LH.x_un ?_
  | with_reducible refine LH.x_U ?_
  | with_reducible refine LH.x_eq (by with_unfolding_all exact rfl) ?_
  | with_reducible refine LH.x_ne (by with_unfolding_all exact rfl) ?_
  | with_reducible refine LH.x_andV ?_
  | with_reducible refine LH.x_orV ?_
  | with_reducible refine LH.x_notV ?_
  | with_reducible refine LH.band ?_
  | with_reducible refine LH.bor ?_
  | with_reducible refine LH.x_if ?_
  | with_reducible refine LH.x_chain ?_
  | with_reducible refine LH.chk ?_
  | with_reducible refine LH.x_callS ?_
  | with_reducible refine LH.x_callE ?_
  | with_reducible refine LH.x_callV ?_
  | with_reducible refine LH.x_lrg ?_
  | with_reducible refine LH.x_lcS ?_
  | with_reducible refine LH.x_lcR1 ?_
  | with_reducible refine LH.x_forR1 ?_
  | with_reducible refine LH.x_forR3 ?_
  | with_reducible refine LH.strv ?_
  | with_reducible refine LH.x_yes ?_
  | with_reducible refine LH.x_sl ?_
  | with_reducible refine LH.x_noPart ?_
  | with_reducible refine LH.x_part ?_
  | with_reducible refine LH.pav ?_
  | with_reducible refine LH.x_jnv ?_
  | with_reducible refine LH.x_join ?_
  | with_reducible refine LH.x_inS ?_
  | with_reducible refine LH.x_niS ?_
  | with_reducible refine LH.x_isB ?_
  | with_reducible refine LH.x_isnB ?_
  | with_reducible refine LH.x_gcons ?_
  | with_reducible refine LH.x_gnil ?_
  | with_reducible refine LH.x_intB ?_
  | with_reducible refine LH.x_orT ?_
  | with_reducible refine LH.x_isTy ?_
  | with_reducible refine LH.x_niTy ?_
  | with_reducible refine LH.x_split ?_
  | with_reducible refine LH.x_spv ?_
  | with_reducible refine LH.x_gsub ?_
  | with_reducible refine LH.x_fmt ?_
  | with_reducible refine LH.x_js0 ?_
  | with_reducible refine LH.x_js ?_
  | with_reducible refine LH.x_rg1 ?_
  | with_reducible refine LH.x_forL ?_
  | with_reducible refine LH.x_abs ?_
  | with_reducible refine LH.x_rg2 ?_
  | with_reducible refine LH.rg1v ?_
  | with_reducible refine LH.rg2v ?_
  | with_reducible refine LH.x_forR2 ?_
  | with_reducible refine LH.x_lenSetG ?_
  | with_reducible refine LH.x_lc ?_
  | with_reducible refine LH.x_fld ?_
  | with_reducible refine LH.x_sfld ?_
  | with_reducible refine LH.x_afld ?_
  | with_reducible refine LH.x_meth ?_
  | with_reducible refine LH.x_make ?_
  | with_reducible refine LH.x_methSl ?_
  | with_reducible refine LH.x_makeSl ?_
  | with_reducible refine LH.x_din ?_
  | with_reducible refine LH.x_dni ?_
  | with_reducible refine LH.x_dget ?_
  | with_reducible refine LH.x_dput ?_
  | with_reducible refine LH.x_dget2 ?_
  | with_reducible refine LH.x_dpop1 ?_
  | with_reducible refine LH.x_litems ?_
  | with_reducible refine LH.x_tru ?_
  | with_reducible refine LH.x_revL ?_
  | with_reducible refine LH.x_dsetT ?_
  | with_reducible refine LH.x_lvals ?_
  | with_reducible refine LH.br_nt ?_
  | with_reducible refine LH.br_nf ?_
  | with_reducible refine LH.br_t ?_
  | with_reducible refine LH.br_f ?_)
local macro_rules | `(tactic| walk_at "rd") => `(tactic| repeat (walk_at "rd1"))
local macro_rules | `(tactic| walk_at "rs1") => `(tactic| first
  | with_reducible refine LH.x_seq ?_
  | with_reducible refine LH.x_cons ?_
  | with_reducible refine LH.x_var (by with_unfolding_all exact rfl) ?_
  | with_reducible refine LH.x_c ?_
  | with_reducible refine LH.x_op ?_
  | with_reducible refine LH.x_gname ?_
  | with_reducible refine LH.x_nil ?_
  | with_reducible refine LH.x_I0 ?_
  | ((with_reducible refine LH.x_I ?k1 ?_); (case k1 => first | exact (by decide) | exact ⟨by decide, by decide⟩ | exact ⟨by decide, by decide, by decide⟩ | exact .inl ⟨by decide, by decide⟩ | exact .inr ⟨by decide, by decide⟩ | exact .inr ⟨by omega, by omega⟩ | exact .inl ⟨by omega, by omega⟩ | exact (by omega)))
  | with_reducible refine LH.x_test ?_
  | with_reducible refine LH.x_tB ?_
  | with_reducible refine LH.bx ?_
  | with_reducible refine LH.x_and ?_
  | with_reducible refine LH.x_or ?_
  | with_reducible refine LH.x_not ?_
  | with_reducible refine LH.x_call ?_
  | with_reducible refine LH.x_cb ?_
  | with_reducible refine LH.x_lst ?_
  | with_reducible refine LH.x_tup ?_
  | with_reducible refine LH.x_bm ?_
  | with_reducible refine LH.x_next ?_
  | with_reducible refine LH.x_cont ?_
  | with_reducible refine LH.x_un ?_
  | with_reducible refine LH.x_U ?_
  | with_reducible refine LH.x_eq (by with_unfolding_all exact rfl) ?_
  | with_reducible refine LH.x_ne (by with_unfolding_all exact rfl) ?_
  | with_reducible refine LH.x_andV ?_
  | with_reducible refine LH.x_orV ?_
  | with_reducible refine LH.x_notV ?_
  | with_reducible refine LH.band ?_
  | with_reducible refine LH.bor ?_
  | with_reducible refine LH.x_if ?_
  | with_reducible refine LH.x_chain ?_
  | with_reducible refine LH.chk ?_
  | with_reducible refine LH.x_callS ?_
  | with_reducible refine LH.x_callE ?_
  | with_reducible refine LH.x_callV ?_
  | with_reducible refine LH.x_lrg ?_
  | with_reducible refine LH.x_lcS ?_
  | with_reducible refine LH.x_lcR1 ?_
  | with_reducible refine LH.strv ?_
  | with_reducible refine LH.x_yes ?_
  | with_reducible refine LH.x_sl ?_
  | with_reducible refine LH.x_noPart ?_
  | with_reducible refine LH.x_part ?_
  | with_reducible refine LH.pav ?_
  | with_reducible refine LH.x_jnv ?_
  | with_reducible refine LH.x_join ?_
  | with_reducible refine LH.x_inS ?_
  | with_reducible refine LH.x_niS ?_
  | with_reducible refine LH.x_isB ?_
  | with_reducible refine LH.x_isnB ?_
  | with_reducible refine LH.x_gcons ?_
  | with_reducible refine LH.x_gnil ?_
  | with_reducible refine LH.x_intB ?_
  | with_reducible refine LH.x_orT ?_
  | with_reducible refine LH.x_isTy ?_
  | with_reducible refine LH.x_niTy ?_
  | with_reducible refine LH.x_split ?_
  | with_reducible refine LH.x_spv ?_
  | with_reducible refine LH.x_gsub ?_
  | with_reducible refine LH.x_fmt ?_
  | with_reducible refine LH.x_js0 ?_
  | with_reducible refine LH.x_js ?_
  | with_reducible refine LH.x_rg1 ?_
  | with_reducible refine LH.x_abs ?_
  | with_reducible refine LH.x_rg2 ?_
  | with_reducible refine LH.rg1v ?_
  | with_reducible refine LH.rg2v ?_
  | with_reducible refine LH.x_lenSetG ?_
  | with_reducible refine LH.x_lc ?_
  | with_reducible refine LH.x_fld ?_
  | with_reducible refine LH.x_sfld ?_
  | with_reducible refine LH.x_afld ?_
  | with_reducible refine LH.x_meth ?_
  | with_reducible refine LH.x_make ?_
  | with_reducible refine LH.x_methSl ?_
  | with_reducible refine LH.x_makeSl ?_
  | with_reducible refine LH.x_din ?_
  | with_reducible refine LH.x_dni ?_
  | with_reducible refine LH.x_dget ?_
  | with_reducible refine LH.x_dput ?_
  | with_reducible refine LH.x_dget2 ?_
  | with_reducible refine LH.x_dpop1 ?_
  | with_reducible refine LH.x_litems ?_
  | with_reducible refine LH.x_tru ?_
  | with_reducible refine LH.x_revL ?_
  | with_reducible refine LH.x_dsetT ?_
  | with_reducible refine LH.x_lvals ?_
  | with_reducible refine LH.br_nt ?_
  | with_reducible refine LH.br_nf ?_
  | with_reducible refine LH.br_t ?_
  | with_reducible refine LH.br_f ?_)
local macro_rules | `(tactic| walk_at "rs") => `(tactic| repeat (walk_at "rs1"))

section
variable {P : Program} {w : World} {K : PySem.W.Frag} {mg : Str → Option Value} {base : Heap} {a : Ad}
theorem mem_markT {st : HS} {u x : Wrd} (h : x ∈ st.markT u) : x ∈ (st.mark u).known := by
  unfold HS.markT at h
  unfold HS.mark
  split at h
  · rename_i c
    rw [if_pos c, List.mem_singleton.mp h]
    exact mem_learn.mpr (.inr rfl)
  · cases h
theorem hearT_ok {st : HS} {u x : Wrd} (go : Good st) (fit : Fit st u) (h : x ∈ st.hearT u) : x.Ok := by
  have g1 := go.learn fit
  have g2 := g1.mark fit.1 (w := u)
  unfold HS.hearT at h
  split at h
  · cases h
  · rcases List.mem_append.mp h with h | h
    · rcases List.mem_append.mp h with h | h
      · exact (g2.wd x (mem_markT h)).1
      · unfold HS.backT at h
        split at h
        · exact (g2.wd x (List.mem_filter.mp (mem_rise h)).1).1
        · cases h
    · unfold HS.nameT at h
      split at h
      · have kn : u ∈ (((st.learn u).mark u).write u).known := by rw [write_known]; exact mark_known (mem_learn.mpr (.inr rfl))
        have g3 := g2.write fit.1 (w := u)
        simp only [List.mem_cons, List.not_mem_nil, or_false] at h
        rcases h with rfl | rfl
        · exact (g3.wd _ (first_mem kn).1).1
        · exact fit.1
      · cases h
theorem tw_tups {F F' : Hp} {xs : List V} {ws : List Wrd} (e : ∀ b vs, F b = some (.tup vs) → F' b = some (.tup vs)) (h : TW F xs ws) : TW F' xs ws := LH.Paired.imp (fun _ _ q => let ⟨t, h1, h2⟩ := q; ⟨t, h1, e _ _ h2⟩) h
theorem tw_less {M : List Addr} {H : Hp} {r : Addr} {ys : List V} {xs : List V} {ws : List Wrd} (g : H r = some (.lst ys)) (h : TW (LH.Fr M H) xs ws) : TW (LH.Fr (r :: M) H) xs ws := tw_tups (fun b vs q => by
  obtain ⟨q1, q2⟩ := LH.fr_some q
  exact LH.fr_of q1 fun m => (List.mem_cons.mp m).elim (fun e => by rw [e, g] at q1; cases q1) q2) h
theorem hearT_len {st : HS} {u : Wrd} (c2 : st.c ≤ 12) : (st.hearT u).length ≤ 15 := by
  unfold HS.hearT
  split
  · simp
  · rw [List.length_append, List.length_append]
    have h1 : ((st.learn u).markT u).length ≤ 1 := by unfold HS.markT; split <;> simp
    have h2 : (((st.learn u).mark u).backT u).length ≤ 12 := by
      unfold HS.backT
      split
      · refine Nat.le_trans (?_ : _ ≤ ((List.range st.c.toNat).length)) (by rw [List.length_range]; omega)
        have e : ((st.learn u).mark u).c = st.c := mark_same.1
        rw [e]
        exact List.length_filterMap_le _ _
      · simp
    have h3 : ((((st.learn u).mark u).write u).nameT u).length ≤ 2 := by unfold HS.nameT; split <;> simp
    omega
theorem Std.ks {C : Addr} {M A : List Addr} {H H' : Hp} {h : HA} {st : HS} (S : Std C M H h st) (k : LH.Ks A H H') (sA : ∀ b ∈ A, b ∈ M) (d : ∀ b ∈ h.S, b ∉ A) (al : ∀ b ∈ A, ∃ o, H' b = some o) : Std C M H' h st :=
  ⟨S.at_.to (k.frS sA) fun b o hb q => k b o q (d b hb), S.sub, fun b hb => by
    by_cases c : b ∈ A
    · exact al b c
    · obtain ⟨o, q⟩ := S.al b hb
      exact ⟨o, k b o q c⟩, S.sm⟩
theorem OwnAt.alive {F H : Hp} {oa : OA} {l : List VW} {st : HS} (O : OwnAt F H oa l st) : ∀ b ∈ oa.S, ∃ o, H b = some o := fun b hb => by
  unfold OA.S at hb
  simp only [List.mem_cons, List.not_mem_nil, or_false] at hb
  rcases hb with rfl | rfl | rfl | rfl | rfl
  · exact ⟨_, O.ob⟩
  · exact ⟨_, O.kn⟩
  · exact ⟨_, O.ro⟩
  · obtain ⟨k, h, _⟩ := O.ba; exact ⟨_, h⟩
  · obtain ⟨k, h, _⟩ := O.nm; exact ⟨_, h⟩
theorem OwnAt.due {F H : Hp} {oa : OA} {l : List VW} {st : HS} (O : OwnAt F H oa l st) (d : Int) : OwnAt F H oa l { st with due := d } :=
  ⟨O.ob, O.kn, O.tv, O.lk, O.ro, O.ba, O.nm, O.nd, ⟨O.go.c1, O.go.c2, O.go.o1, O.go.o2, O.go.nd, O.go.wd, O.go.mn, O.go.rn, O.go.bn, O.go.nn, O.go.rk, O.go.bk, O.go.nk⟩, O.mi⟩
/-- a house and the law's own of it -/
structure Both (C : Addr) (M : List Addr) (H : Hp) (h : HA) (oa : OA) (l : List VW) (st : HS) : Prop where
  s : Std C M H h st
  o : OwnAt (LH.Fr M H) H oa l st
  m : ∀ b ∈ oa.S, b ∈ M
  d : ∀ b ∈ oa.S, b ∉ h.S
theorem Both.same {C : Addr} {M : List Addr} {H H' : Hp} {h : HA} {oa : OA} {l : List VW} {st : HS} (B : Both C M H h oa l st) (e : Same H H') : Both C M H' h oa l st :=
  ⟨B.s.same e, B.o.to (LH.same_fr e) fun b o _ q => e _ _ q, B.m, B.d⟩
/-- what comes of hearing a word by both -/
def spDeed (C : Addr) : Sp := fun vs H Q _ => ∃ (h : HA) (oa : OA) (l : List VW) (st : HS) (M : List Addr) (cell base calls : Int), vs = [.ref h.p, .ref oa.o, .int cell, .int base, .int calls] ∧ Both C M H h oa l st ∧ st.size ≤ 390 ∧ st.due = st.own + st.c * calls ∧
  ∀ t H' N h' l' st' r1 r2 xs1 xs2 tw, h'.p = h.p → (∀ b ∈ N, H b = none) → LH.Ks (h.S ++ oa.S) H H' → (∀ b ∈ h'.S, b ∈ h.S ∨ b ∈ N) → Both C (N ++ M) H' h' oa l' st' → Same (LH.Fr M H) (LH.Fr (N ++ M) H') → st'.size ≤ st.size + 5 → st'.c = st.c → st'.own = st.own →
    st'.due = (if cell % 16 = 5 ∨ st.c = 1 then st.due + st.c else st.due) → (∃ w : Wrd, st' = ({ st with due := st'.due } : HS).hear w) → H' t = some (.tup [.ref r1, .ref r2]) → H' r1 = some (.lst xs1) → H' r2 = some (.lst xs2) → TW (LH.Fr (N ++ M) H') xs1 tw → TW (LH.Fr (N ++ M) H') xs2 tw →
    r1 ∈ N → (∀ w ∈ tw, w.Ok) → r2 ∉ N ++ M → t ∉ N ++ M → r1 ≠ r2 → H r1 = none → H r2 = none → Q (.ref t) H'
theorem ok__law_deed (T : Txt K mg a) : FnOk P w K mg base CX0 8 a._law_deed a.d__law_deed ["_law_house", "_law_own_here", "_law_cell", "_law_base", "_law_calls"] (spDeed a.House) := by
  have G__law_row := ok__law_row (P := P) (w := w) (base := base) T
  have G__law_word := ok__law_word (P := P) (w := w) (base := base) T
  have G__law_heard := ok__law_heard (P := P) (w := w) (base := base) T
  have G_House_call := ok_House_call (P := P) (w := w) (base := base) T
  have G_House_hear := ok_House_hear (P := P) (w := w) (base := base) T
  refine T.F__law_deed.ok sc__law_deed (fun vs H Q E h => ?_) (fun cdv A outer s H vs Q E hr h => ?_)
  · obtain ⟨h, oa, l, st, M, cell, bs, calls, rfl, _⟩ := h
    rfl
  · obtain ⟨h, oa, l, st, M, cell, bs, calls, rfl, B, sz, hdue, k⟩ := h
    have go := B.o.go
    have c1 := go.c1
    have c2 := go.c2
    obtain ⟨dx, hp⟩ := B.s.at_.ob
    have HR_House_call : Room 7 _ := hr.mono (by decide)
    have HR_House_hear : Room 6 _ := hr.mono (by decide)
    have HR__law_row : Room 1 _ := hr.mono (by decide)
    have HR__law_heard : Room 1 _ := hr.mono (by decide)
    have HR__law_word : Room 2 _ := hr.mono (by decide)
    refine ⟨_, (pss_cons (ps_if (PW.pt (pw_or (pt_cmpR op_eq (pe_op op_mod (pv 2) pe_int) pe_int (nomark _)) (pw_or1 (pt_cmpR op_eq (pe_dget (hu_of hr) (pv 1) pe_str (fun _ _ => rfl)) pe_int (nomark _)))))
    (pss_cons (ps_set (i := 5) sc__law_deed.nd rfl (Or.inl rfl) (pe_call G__law_row HR__law_row rfl T.g__law_row T.F__law_row.kp T.b__law_row .nil pass0 (pa_cons (pv 3) (pa_cons (pe_op op_mod (pe_op op_fdiv (pv 2) pe_int) pe_int) pa_nil))))
    (pss_cons (ps_set (i := 6) sc__law_deed.nd rfl (Or.inl rfl) (pe_op op_add (pe_dget (hu_of hr) (pv 1) pe_str (fun _ _ => rfl)) (pe_op op_mul (pe_dget (hu_of hr) (pv 1) pe_str (fun _ _ => rfl)) (pv 4))))
    (pss_cons (ps_set (i := 7) sc__law_deed.nd rfl (Or.inl rfl) (pe_tup (pa_cons pe_str (pa_cons (pv 6) (pa_cons (pv 5) (pa_cons (pe_dget (hu_of hr) (pv 1) pe_str (fun _ _ => rfl)) pa_nil))))))
    (pss_one (ps_ret (pe_tup (pa_cons (pe_meth (pv 0) T.cl_House T.me_House_call G_House_call HR_House_call T.b_House_call .nil LH.passN (pa_cons (pv 5) pa_nil)) (pa_cons (pe_op (r := LH.rCatS K) LH.op_catS (pe_lst (pa_cons (pv 7) pa_nil)) (pe_call G__law_heard HR__law_heard rfl T.g__law_heard T.F__law_heard.kp T.b__law_heard .nil pass0 (pa_cons (pv 1) (pa_cons (pv 7) pa_nil)))) pa_nil))))))))
    pss_nil)
  (pss_cons (ps_set (i := 7) sc__law_deed.nd rfl (Or.inl rfl) (pe_call G__law_word HR__law_word rfl T.g__law_word T.F__law_word.kp T.b__law_word .nil pass0 (pa_cons (pe_op op_fdiv (pv 2) pe_int) (pa_cons (pv 1) (pa_cons (pv 3) pa_nil)))))
  (pss_one (ps_ret (pe_tup (pa_cons (pe_meth (pv 0) T.cl_House T.me_House_hear G_House_hear HR_House_hear T.b_House_hear .nil pass0 (pa_cons (pv 7) pa_nil)) (pa_cons (pe_call G__law_heard HR__law_heard rfl T.g__law_heard T.F__law_heard.kp T.b__law_heard .nil pass0 (pa_cons (pv 1) (pa_cons (pv 7) pa_nil))) pa_nil))))))), ?_⟩
    -- the house, then the law's own
    have both : ∀ (u : Wrd) (st0 : HS) (H2 H3 : Hp) (N : List Addr) (h3 : HA) (t r1 : Addr) (xs1 : List V), Fit st u → ¬ (u.k = "mark" ∧ u.h = st.own) → st0 = { st with due := st0.due } → Same H H2 → t ∉ M → H2 t = some (.tup u.vs) → Nxt a.House M H2 h (st0.hear u) H3 N h3 → OwnAt (LH.Fr M H) H oa l st0 →
        H2 r1 = none → H3 r1 = some (.lst xs1) → HouseAt a.House (LH.Fr (r1 :: (N ++ M)) H3) H3 h3 (st0.hear u) →
        Std a.House (r1 :: (N ++ M)) H3 h3 (st0.hear u) ∧ OwnAt (LH.Fr (r1 :: (N ++ M)) H3) H3 oa l st0 ∧ (∀ b ∈ oa.S, b ∈ r1 :: (N ++ M)) ∧ (∀ b ∈ oa.S, b ∉ h3.S) ∧ WT (LH.Fr (r1 :: (N ++ M)) H3) (.ref t) u ∧ Same (LH.Fr M H) (LH.Fr (r1 :: (N ++ M)) H3) := fun u st0 H2 H3 N h3 t r1 xs1 fit om e0 e2 tM gt nx O0 f1 g1 ap => by
      have B2 := B.same e2
      have szh := size_hear (st := st0) (w := u)
      have s0 : st0.size = st.size := by rw [e0]; rfl
      have fr0 : Same (LH.Fr M H) (LH.Fr (N ++ M) H3) := (LH.same_fr e2).trans (nx.fr B.s.sub)
      have fr : Same (LH.Fr M H) (LH.Fr (r1 :: (N ++ M)) H3) := fun b o q => by
        obtain ⟨q1, q2⟩ := LH.fr_some (fr0 _ _ q)
        exact LH.fr_of q1 fun m => (List.mem_cons.mp m).elim (fun e => by
          have := e2 _ _ (LH.fr_some q).1
          rw [e, f1] at this
          cases this) q2
      have S3 : Std a.House (r1 :: (N ++ M)) H3 h3 (st0.hear u) := ⟨ap, fun b hb => List.mem_cons.mpr (.inr (nx.subM B.s.sub b hb)), fun b hb => (List.mem_cons.mp hb).elim (fun e => ⟨_, e ▸ g1⟩) (nx.alive B2.s.al b), by omega⟩
      refine ⟨S3, O0.to fr fun b o hb q => nx.ks _ _ (e2 _ _ q) (B.d b hb), fun b hb => List.mem_cons.mpr (.inr (List.mem_append.mpr (.inr (B.m b hb)))), fun b hb m => ?_, ⟨t, rfl, ?_⟩, fr⟩
      · rcases nx.sub b m with m | m
        · exact B.d b hb m
        · obtain ⟨o, q⟩ := B2.o.alive b hb
          rw [nx.nw b m] at q
          cases q
      · refine LH.fr_of (nx.ks _ _ gt fun m => tM (B.s.sub t m)) fun m => ?_
        rcases List.mem_cons.mp m with m | m
        · rw [m, f1] at gt
          cases gt
        · rcases List.mem_append.mp m with m | m
          · rw [nx.nw t m] at gt
            cases gt
          · exact tM m
    walk_at "rs"
    refine LH.x_ifS ?_
    refine LH.cutT (fun b H' => H' = H ∧ b = decide (cell % 16 = 5 ∨ st.c = 1)) (fun Q1 q1 => ?_) ?_
    · walk_at "rd"
      rw [dint]
      by_cases c5 : cell % 16 = 5
      · rw [decide_eq_true c5]
        walk_at "rd"
        exact q1 _ _ ⟨rfl, (decide_eq_true (.inl c5)).symm⟩
      · rw [decide_eq_false c5]
        walk_at "rd"
        refine LH.getv (LH.getS B.o.ob) rfl ?_
        walk_at "rd"
        rw [dint]
        by_cases c6 : st.c = 1
        · rw [decide_eq_true c6]
          exact q1 _ _ ⟨rfl, (decide_eq_true (.inr c6)).symm⟩
        · rw [decide_eq_false c6]
          exact q1 _ _ ⟨rfl, (decide_eq_false fun q => q.elim c5 c6).symm⟩
    rintro b0 H0 ⟨e0, rfl⟩
    obtain rfl : H = H0 := e0.symm
    have szh : ∀ (st0 : HS) (u : Wrd), st0.size = st.size → (st0.hear u).size ≤ st.size + 5 := fun st0 u e => by have := size_hear (st := st0) (w := u); omega
    by_cases cc : cell % 16 = 5 ∨ st.c = 1
    · rw [decide_eq_true cc]
      walk_at "rd"
      refine ⟨bs, _, rfl, fun H1 e1 => ?_⟩
      walk_at "rd"
      have B1 := B.same e1
      refine LH.getv (LH.getS B1.o.ob) rfl ?_
      walk_at "rd"
      refine LH.getv (LH.getS B1.o.ob) rfl ?_
      walk_at "rd"
      refine LH.getv (LH.getS B1.o.ob) rfl ?_
      walk_at "rd"
      refine LH.newt (LH.small rfl) fun t H2 f2 e2 g2 => ?_
      walk_at "rd"
      have e12 := e1.trans e2
      have B2 := B.same e12
      have tM : t ∉ M := LH.not_in f2 B1.s.al
      refine LH.methv (e12 _ _ hp) rfl ?_
      walk_at "rd"
      have rz := rowF_row bs (cell / 16 % 4)
      refine ⟨h, st, .str (rowF bs (cell / 16 % 4)), _, M, rfl, B2.s, .str _, (fun z e => by injection e with e; subst e; exact rowF_ok _ _), by omega, fun e => absurd (show isRowS _ = false from e) (by rw [rz]; decide), fun z ez _ H3 N h3 r1 xs1 nx f3 r1N g3 tw1 ap => ?_⟩
      injection ez with ez
      subst ez
      have eu : sayOf st (rowF bs (cell / 16 % 4)) = ⟨"say", st.own + st.c * calls, rowF bs (cell / 16 % 4), st.own⟩ := by unfold sayOf; rw [hdue]
      have fit : Fit st (sayOf st (rowF bs (cell / 16 % 4))) := ⟨⟨ok_sayW, rowF_ok _ _⟩, go.o1, go.o2⟩
      have om : ¬ ((sayOf st (rowF bs (cell / 16 % 4))).k = "mark" ∧ (sayOf st (rowF bs (cell / 16 % 4))).h = st.own) := fun q => absurd q.1 (show ¬ (("say" : Str) = "mark") by decide)
      obtain ⟨S3, O3, m3, d3, w3, fr3⟩ := both (sayOf st (rowF bs (cell / 16 % 4))) { st with due := st.due + st.c } H2 H3 N h3 t r1 xs1 fit om rfl e12 tM (by rw [eu]; exact g2) nx (B.o.due _) f3 g3 ap
      walk_at "rd"
      refine LH.newl (LH.small rfl) fun r0 H4 f4 e4 g4 => ?_
      walk_at "rd"
      have S4 := S3.same e4
      have O4 := O3.to (LH.same_fr e4) fun b o _ q => e4 _ _ q
      refine ⟨oa, l, { st with due := st.due + st.c }, .ref t, sayOf st (rowF bs (cell / 16 % 4)), r1 :: (N ++ M), rfl, O4, m3, S4.al, w3.up (LH.same_fr e4), fit, om, by show st.size ≤ 400; omega, fun H5 r2 xs2 l5 ks5 O5 f5 g5 tw2 => ?_⟩
      have S5 := S4.ks ks5 m3 (fun b hb m => d3 b m hb) O5.alive
      have r0S : r0 ∉ oa.S := fun m => by
        obtain ⟨o, q⟩ := O3.alive r0 m
        rw [f4] at q
        cases q
      have r1S : r1 ∉ oa.S := fun m => by
        obtain ⟨o, q⟩ := B2.o.alive r1 m
        rw [f3] at q
        cases q
      have lx : xs2.length ≤ 1000 := by
        have e := LH.Paired.len tw2
        have e3 := hearT_len (st := { st with due := st.due + st.c }) (u := sayOf st (rowF bs (cell / 16 % 4))) c2
        omega
      refine LH.x_catS (SqL.of (ks5 _ _ g4 r0S)) (SqL.of g5) (by simp; omega) fun r3 H6 f6 e6 g6 => ?_
      walk_at "rd"
      refine LH.newt (LH.small rfl) fun t7 H7 f7 e7 g7 => ?_
      have e57 := e6.trans e7
      obtain ⟨s1, s2, s3⟩ := hear_same (st := { st with due := st.due + st.c }) (w := sayOf st (rowF bs (cell / 16 % 4)))
      have f47 : Same (LH.Fr (r1 :: (N ++ M)) H4) (LH.Fr (r1 :: (N ++ M)) H7) := (ks5.frS m3).trans (LH.same_fr e57)
      have f37 := (LH.same_fr (M := r1 :: (N ++ M)) e4).trans f47
      have n3H : ∀ y, y ∉ oa.S → H5 y = none → H y = none := fun y n q => by
        have q4 : H4 y = none := by
          cases q1 : H4 y with
          | none => rfl
          | some o => rw [ks5 _ _ q1 n] at q; cases q
        exact LH.Same.none e12 (B2.s.fresh nx (LH.Same.none e4 q4)).1
      have r3N : r3 ∉ r1 :: (N ++ M) := LH.not_in f6 S5.al
      have g1' : H5 r1 = some (.lst xs1) := ks5 _ _ (e4 _ _ g3) r1S
      refine k t7 H7 (r1 :: N) h3 l5 (st.call (rowF bs (cell / 16 % 4))) r1 r3 xs1 _ (st.callT (rowF bs (cell / 16 % 4))) nx.p (fun b hb => (List.mem_cons.mp hb).elim (fun e => e ▸ LH.Same.none e12 f3) fun m => LH.Same.none e12 (nx.nw b m)) (fun b v q n => e57 _ _ (ks5 _ _ (e4 _ _ (nx.ks _ _ (e12 _ _ q) fun m => n (List.mem_append.mpr (.inl m)))) fun m => n (List.mem_append.mpr (.inr m)))) (fun b hb => (nx.sub b hb).imp id fun m => List.mem_cons.mpr (.inr m)) ⟨S5.same e57, O5.to (LH.same_fr e57) fun b o _ q => e57 _ _ q, m3, d3⟩ (fr3.trans f37) (szh _ _ rfl) s1 s2 (by rw [if_pos cc]; exact s3) ⟨sayOf st (rowF bs (cell / 16 % 4)), ?_⟩ g7 (e57 _ _ g1') (e7 _ _ g6) ((tw_less g3 tw1).up f37) (.cons (w3.up f37) (tw2.up (LH.same_fr e57))) (List.mem_cons_self ..) (fun w hw => (List.mem_cons.mp hw).elim (fun e => e ▸ fit.1) fun m => hearT_ok (B.o.due (st.due + st.c)).go fit m) r3N (LH.not_in f7 (S5.same e6).al) (fun e => by rw [e, f6] at g1'; cases g1') (LH.Same.none e12 f3) (n3H r3 (fun m => r3N (m3 _ m)) f6)
      have e8 : (st.call (rowF bs (cell / 16 % 4))).due = st.due + st.c := s3
      rw [e8]
      rfl
    · rw [decide_eq_false cc]
      walk_at "rd"
      have c3 : ¬ st.c = 1 := fun q => cc (.inr q)
      refine ⟨_, bs, st.c, st.own, oa, rfl, B.o.ob, by omega, go.o1, go.o2, fun t H1 u e1 f1 g1 uo u0 u1 um => ?_⟩
      walk_at "rd"
      have B1 := B.same e1
      have tM : t ∉ M := LH.not_in f1 B.s.al
      have fit : Fit st u := ⟨uo, u0, u1⟩
      refine LH.methv (e1 _ _ hp) rfl ?_
      walk_at "rd"
      refine ⟨h, st, .ref t, u, M, rfl, B1.s, ⟨t, rfl, LH.fr_of g1 tM⟩, fit, by omega, fun H3 N h3 r1 xs1 nx f3 r1N g3 tw1 ap => ?_⟩
      obtain ⟨S3, O3, m3, d3, w3, fr3⟩ := both u st H1 H3 N h3 t r1 xs1 fit um rfl e1 tM g1 nx B.o f3 g3 ap
      walk_at "rd"
      refine ⟨oa, l, st, .ref t, u, r1 :: (N ++ M), rfl, O3, m3, S3.al, w3, fit, um, by omega, fun H5 r2 xs2 l5 ks5 O5 f5 g5 tw2 => ?_⟩
      walk_at "rd"
      have S5 := S3.ks ks5 m3 (fun b hb m => d3 b m hb) O5.alive
      have r1S : r1 ∉ oa.S := fun m => by
        obtain ⟨o, q⟩ := B1.o.alive r1 m
        rw [f3] at q
        cases q
      refine LH.newt (LH.small rfl) fun t7 H7 f7 e7 g7 => ?_
      obtain ⟨s1, s2, s3⟩ := hear_same (st := st) (w := u)
      have f37 : Same (LH.Fr (r1 :: (N ++ M)) H3) (LH.Fr (r1 :: (N ++ M)) H7) := (ks5.frS m3).trans (LH.same_fr e7)
      have r2N : r2 ∉ r1 :: (N ++ M) := LH.not_in f5 S3.al
      have g1' : H5 r1 = some (.lst xs1) := ks5 _ _ g3 r1S
      refine k t7 H7 (r1 :: N) h3 l5 (st.hear u) r1 r2 xs1 _ (st.hearT u) nx.p (fun b hb => (List.mem_cons.mp hb).elim (fun e => e ▸ LH.Same.none e1 f3) fun m => LH.Same.none e1 (nx.nw b m)) (fun b v q n => e7 _ _ (ks5 _ _ (nx.ks _ _ (e1 _ _ q) fun m => n (List.mem_append.mpr (.inl m))) fun m => n (List.mem_append.mpr (.inr m)))) (fun b hb => (nx.sub b hb).imp id fun m => List.mem_cons.mpr (.inr m)) ⟨S5.same e7, O5.to (LH.same_fr e7) fun b o _ q => e7 _ _ q, m3, d3⟩ (fr3.trans f37) (szh _ _ rfl) s1 s2 (by rw [if_neg cc]; exact s3) ⟨u, by rw [s3]⟩ g7 (e7 _ _ g1') (e7 _ _ g5) ((tw_less g3 tw1).up f37) (tw2.up (LH.same_fr e7)) (List.mem_cons_self ..) (fun w hw => hearT_ok go fit hw) r2N (LH.not_in f7 S5.al) (fun e => by rw [e, f5] at g3; cases g3) (LH.Same.none e1 f3) (LH.Same.none e1 (B1.s.fresh nx f5).1)
/-- another house stays -/
theorem Both.far {C : Addr} {M N A : List Addr} {H H' : Hp} {h : HA} {oa : OA} {l : List VW} {st : HS} (B : Both C M H h oa l st) (k : LH.Ks A H H') (d1 : ∀ b ∈ h.S, b ∉ A) (d2 : ∀ b ∈ oa.S, b ∉ A) (f : Same (LH.Fr M H) (LH.Fr (N ++ M) H')) (al : ∀ b ∈ N ++ M, ∃ o, H' b = some o) : Both C (N ++ M) H' h oa l st :=
  ⟨⟨B.s.at_.to f fun b o hb q => k _ _ q (d1 b hb), fun b hb => List.mem_append.mpr (.inr (B.s.sub b hb)), al, B.s.sm⟩, B.o.to f fun b o hb q => k _ _ q (d2 b hb), fun b hb => List.mem_append.mpr (.inr (B.m b hb)), B.d⟩
end
end K6
namespace K6
open PySem L2 LM HM
local macro_rules | `(tactic| walk_at "rd1") => `(tactic| first
  | with_reducible refine LH.x_seq ?_
  | with_reducible refine LH.x_asg ?_
  | with_reducible refine LH.x_cons ?_
  | with_reducible refine LH.x_var (by with_unfolding_all exact rfl) ?_
  | with_reducible refine LH.x_c ?_
  | with_reducible refine LH.x_op ?_
  | with_reducible refine LH.x_gname ?_
  | with_reducible refine LH.x_nil ?_
  | with_reducible refine LH.x_I0 ?_
  | ((with_reducible refine LH.x_I ?k1 ?_); (case k1 => first | exact (by decide) | exact ⟨by decide, by decide⟩ | exact ⟨by decide, by decide, by decide⟩ | exact .inl ⟨by decide, by decide⟩ | exact .inr ⟨by decide, by decide⟩ | exact .inr ⟨by omega, by omega⟩ | exact .inl ⟨by omega, by omega⟩ | exact (by omega)))
  | with_reducible refine LH.x_ifS ?_
  | with_reducible refine LH.x_test ?_
  | with_reducible refine LH.x_tB ?_
  | with_reducible refine LH.bx ?_
  | with_reducible refine LH.x_and ?_
  | with_reducible refine LH.x_or ?_
  | with_reducible refine LH.x_not ?_
  | with_reducible refine LH.x_ret ?_
  | with_reducible refine LH.x_call ?_
  | with_reducible refine LH.x_cb ?_
  | with_reducible refine LH.x_lst ?_
  | with_reducible refine LH.x_tup ?_
  | with_reducible refine LH.x_bm ?_
  | with_reducible refine LH.x_drop ?_
  | with_reducible refine LH.x_next ?_
  | with_reducible refine LH.x_cont ?_
  | with_reducible refine LH.x_un ?_
  | with_reducible refine LH.x_U ?_
  | with_reducible refine LH.x_eq (by with_unfolding_all exact rfl) ?_
  | with_reducible refine LH.x_ne (by with_unfolding_all exact rfl) ?_
  | with_reducible refine LH.x_andV ?_
  | with_reducible refine LH.x_orV ?_
  | with_reducible refine LH.x_notV ?_
  | with_reducible refine LH.band ?_
  | with_reducible refine LH.bor ?_
  | with_reducible refine LH.x_if ?_
  | with_reducible refine LH.x_chain ?_
  | with_reducible refine LH.chk ?_
  | with_reducible refine LH.x_callS ?_
  | with_reducible refine LH.x_callE ?_
  | with_reducible refine LH.x_callV ?_
  | with_reducible refine LH.x_lrg ?_
  | with_reducible refine LH.x_lcS ?_
  | with_reducible refine LH.x_lcR1 ?_
  | with_reducible refine LH.x_forR1 ?_
  | with_reducible refine LH.x_forR3 ?_
  | with_reducible refine LH.strv ?_
  | with_reducible refine LH.x_yes ?_
  | with_reducible refine LH.x_sl ?_
  | with_reducible refine LH.x_noPart ?_
  | with_reducible refine LH.x_part ?_
  | with_reducible refine LH.pav ?_
  | with_reducible refine LH.x_jnv ?_
  | with_reducible refine LH.x_join ?_
  | with_reducible refine LH.x_inS ?_
  | with_reducible refine LH.x_niS ?_
  | with_reducible refine LH.x_isB ?_
  | with_reducible refine LH.x_isnB ?_
  | with_reducible refine LH.x_gcons ?_
  | with_reducible refine LH.x_gnil ?_
  | with_reducible refine LH.x_intB ?_
  | with_reducible refine LH.x_orT ?_
  | with_reducible refine LH.x_isTy ?_
  | with_reducible refine LH.x_niTy ?_
  | with_reducible refine LH.x_split ?_
  | with_reducible refine LH.x_spv ?_
  | with_reducible refine LH.x_gsub ?_
  | with_reducible refine LH.x_fmt ?_
  | with_reducible refine LH.x_js0 ?_
  | with_reducible refine LH.x_js ?_
  | with_reducible refine LH.x_rg1 ?_
  | with_reducible refine LH.x_forL ?_
  | with_reducible refine LH.x_abs ?_
  | with_reducible refine LH.x_rg2 ?_
  | with_reducible refine LH.rg1v ?_
  | with_reducible refine LH.rg2v ?_
  | with_reducible refine LH.x_forR2 ?_
  | with_reducible refine LH.x_lenSetG ?_
  | with_reducible refine LH.x_lc ?_
  | with_reducible refine LH.x_fld ?_
  | with_reducible refine LH.x_sfld ?_
  | with_reducible refine LH.x_afld ?_
  | with_reducible refine LH.x_meth ?_
  | with_reducible refine LH.x_make ?_
  | with_reducible refine LH.x_methSl ?_
  | with_reducible refine LH.x_makeSl ?_
  | with_reducible refine LH.x_din ?_
  | with_reducible refine LH.x_dni ?_
  | with_reducible refine LH.x_dget ?_
  | with_reducible refine LH.x_dput ?_
  | with_reducible refine LH.x_dget2 ?_
  | with_reducible refine LH.x_dpop1 ?_
  | with_reducible refine LH.x_litems ?_
  | with_reducible refine LH.x_tru ?_
  | with_reducible refine LH.x_revL ?_
  | with_reducible refine LH.x_dsetT ?_
  | with_reducible refine LH.x_lvals ?_
  | with_reducible refine LH.br_nt ?_
  | with_reducible refine LH.br_nf ?_
  | with_reducible refine LH.br_t ?_
  | with_reducible refine LH.br_f ?_)
local macro_rules | `(tactic| walk_at "rd") => `(tactic| repeat (walk_at "rd1"))
local macro_rules | `(tactic| walk_at "rs1") => `(tactic| first
  | with_reducible refine LH.x_seq ?_
  | with_reducible refine LH.x_cons ?_
  | with_reducible refine LH.x_var (by with_unfolding_all exact rfl) ?_
  | with_reducible refine LH.x_c ?_
  | with_reducible refine LH.x_op ?_
  | with_reducible refine LH.x_gname ?_
  | with_reducible refine LH.x_nil ?_
  | with_reducible refine LH.x_I0 ?_
  | ((with_reducible refine LH.x_I ?k1 ?_); (case k1 => first | exact (by decide) | exact ⟨by decide, by decide⟩ | exact ⟨by decide, by decide, by decide⟩ | exact .inl ⟨by decide, by decide⟩ | exact .inr ⟨by decide, by decide⟩ | exact .inr ⟨by omega, by omega⟩ | exact .inl ⟨by omega, by omega⟩ | exact (by omega)))
  | with_reducible refine LH.x_test ?_
  | with_reducible refine LH.x_tB ?_
  | with_reducible refine LH.bx ?_
  | with_reducible refine LH.x_and ?_
  | with_reducible refine LH.x_or ?_
  | with_reducible refine LH.x_not ?_
  | with_reducible refine LH.x_call ?_
  | with_reducible refine LH.x_cb ?_
  | with_reducible refine LH.x_lst ?_
  | with_reducible refine LH.x_tup ?_
  | with_reducible refine LH.x_bm ?_
  | with_reducible refine LH.x_next ?_
  | with_reducible refine LH.x_cont ?_
  | with_reducible refine LH.x_un ?_
  | with_reducible refine LH.x_U ?_
  | with_reducible refine LH.x_eq (by with_unfolding_all exact rfl) ?_
  | with_reducible refine LH.x_ne (by with_unfolding_all exact rfl) ?_
  | with_reducible refine LH.x_andV ?_
  | with_reducible refine LH.x_orV ?_
  | with_reducible refine LH.x_notV ?_
  | with_reducible refine LH.band ?_
  | with_reducible refine LH.bor ?_
  | with_reducible refine LH.x_if ?_
  | with_reducible refine LH.x_chain ?_
  | with_reducible refine LH.chk ?_
  | with_reducible refine LH.x_callS ?_
  | with_reducible refine LH.x_callE ?_
  | with_reducible refine LH.x_callV ?_
  | with_reducible refine LH.x_lrg ?_
  | with_reducible refine LH.x_lcS ?_
  | with_reducible refine LH.x_lcR1 ?_
  | with_reducible refine LH.strv ?_
  | with_reducible refine LH.x_yes ?_
  | with_reducible refine LH.x_sl ?_
  | with_reducible refine LH.x_noPart ?_
  | with_reducible refine LH.x_part ?_
  | with_reducible refine LH.pav ?_
  | with_reducible refine LH.x_jnv ?_
  | with_reducible refine LH.x_join ?_
  | with_reducible refine LH.x_inS ?_
  | with_reducible refine LH.x_niS ?_
  | with_reducible refine LH.x_isB ?_
  | with_reducible refine LH.x_isnB ?_
  | with_reducible refine LH.x_gcons ?_
  | with_reducible refine LH.x_gnil ?_
  | with_reducible refine LH.x_intB ?_
  | with_reducible refine LH.x_orT ?_
  | with_reducible refine LH.x_isTy ?_
  | with_reducible refine LH.x_niTy ?_
  | with_reducible refine LH.x_split ?_
  | with_reducible refine LH.x_spv ?_
  | with_reducible refine LH.x_gsub ?_
  | with_reducible refine LH.x_fmt ?_
  | with_reducible refine LH.x_js0 ?_
  | with_reducible refine LH.x_js ?_
  | with_reducible refine LH.x_rg1 ?_
  | with_reducible refine LH.x_abs ?_
  | with_reducible refine LH.x_rg2 ?_
  | with_reducible refine LH.rg1v ?_
  | with_reducible refine LH.rg2v ?_
  | with_reducible refine LH.x_lenSetG ?_
  | with_reducible refine LH.x_lc ?_
  | with_reducible refine LH.x_fld ?_
  | with_reducible refine LH.x_sfld ?_
  | with_reducible refine LH.x_afld ?_
  | with_reducible refine LH.x_meth ?_
  | with_reducible refine LH.x_make ?_
  | with_reducible refine LH.x_methSl ?_
  | with_reducible refine LH.x_makeSl ?_
  | with_reducible refine LH.x_din ?_
  | with_reducible refine LH.x_dni ?_
  | with_reducible refine LH.x_dget ?_
  | with_reducible refine LH.x_dput ?_
  | with_reducible refine LH.x_dget2 ?_
  | with_reducible refine LH.x_dpop1 ?_
  | with_reducible refine LH.x_litems ?_
  | with_reducible refine LH.x_tru ?_
  | with_reducible refine LH.x_revL ?_
  | with_reducible refine LH.x_dsetT ?_
  | with_reducible refine LH.x_lvals ?_
  | with_reducible refine LH.br_nt ?_
  | with_reducible refine LH.br_nf ?_
  | with_reducible refine LH.br_t ?_
  | with_reducible refine LH.br_f ?_)
local macro_rules | `(tactic| walk_at "rs") => `(tactic| repeat (walk_at "rs1"))

section
variable {P : Program} {w : World} {K : PySem.W.Frag} {mg : Str → Option Value} {base : Heap} {a : Ad}
def gw (c : Int) (i : Nat) : Wrd := ⟨"mark", 0, "a", c - 1 - i⟩
/-- a great house, i words on -/
def great (c o : Int) : Nat → HS
  | 0 => HS.new c o
  | i + 1 => if c - 1 - (i : Int) = o then great c o i else (great c o i).hear (gw c i)
theorem great_rows : ∀ c ∈ [11, 12], ∀ o ∈ [0, 1, 2, 3, 4, 5, 6, 7, 8, 9, 10], (great ((c : Nat) : Int) ((o : Nat) : Int) c).rows = [((0 : Int), ("a" : Str))] := by decide +kernel
theorem great_good {c o : Int} (c1 : 1 ≤ c) (c2 : c ≤ 12) (o1 : 0 ≤ o) (o2 : o < c) : ∀ i : Nat, (i : Int) ≤ c → (great c o i).c = c ∧ (great c o i).own = o ∧ (great c o i).size ≤ 5 * i ∧ ∀ e ∈ (great c o i).rows, e.1 = 0
  | 0, _ => ⟨rfl, rfl, Nat.le_refl _, fun e h => by cases h⟩
  | i + 1, hi => by
    obtain ⟨h1, h2, h3, h4⟩ := great_good c1 c2 o1 o2 i (by omega)
    unfold great
    split
    · exact ⟨h1, h2, by omega, h4⟩
    · obtain ⟨s1, s2, _⟩ := hear_same (st := great c o i) (w := gw c i)
      have := size_hear (st := great c o i) (w := gw c i)
      refine ⟨s1.trans h1, s2.trans h2, by omega, fun e he => ?_⟩
      rcases hear_rows he with he | rfl
      · exact h4 e he
      · rfl
def spGreat : Sp := fun vs H Q _ => ∃ c o : Nat, vs = [.int (c : Int), .int (o : Int)] ∧ c ∈ [11, 12] ∧ o ∈ [0, 1, 2, 3, 4, 5, 6, 7, 8, 9, 10] ∧ ∀ H', Same H H' → Q (.bl true) H'
theorem ok__law_great (T : Txt K mg a) : FnOk P w K mg base CX0 7 a._law_great a.d__law_great ["_law_count", "_law_house"] spGreat := by
  have G__law_own := ok__law_own (P := P) (w := w) (base := base) T
  have G__law_heard := ok__law_heard (P := P) (w := w) (base := base) T
  have G_House___init__ := ok_House___init__ (P := P) (w := w) (base := base) T
  have G_House_hear := ok_House_hear (P := P) (w := w) (base := base) T
  have G_House_ledger := ok_House_ledger (P := P) (w := w) (base := base) T
  have G_House_backing := ok_House_backing (P := P) (w := w) (base := base) T
  refine T.F__law_great.ok sc__law_great (fun vs H Q E h => ?_) (fun cdv A outer s H vs Q E hr h => ?_)
  · obtain ⟨c, o, rfl, _⟩ := h
    rfl
  · obtain ⟨c, o, rfl, hc, ho, k⟩ := h
    have rows := great_rows c hc o ho
    have c12 : 11 ≤ c ∧ c ≤ 12 := by
      simp only [List.mem_cons, List.not_mem_nil, or_false] at hc
      omega
    have o10 : o ≤ 10 := by
      simp only [List.mem_cons, List.not_mem_nil, or_false] at ho
      omega
    have HR_House_hear : Room 6 _ := hr.mono (by decide)
    have HR_House_ledger : Room 1 _ := hr.mono (by decide)
    have HR_House_backing : Room 1 _ := hr.mono (by decide)
    have HR__law_own : Room 2 _ := hr.mono (by decide)
    have HR__law_heard : Room 1 _ := hr.mono (by decide)
    have HRM_House : Room 4 _ := hr.mono (by decide)
    refine ⟨_, (pss_cons (ps_set (i := 2) sc__law_great.nd rfl (Or.inl rfl) (pe_make T.mk_House G_House___init__ HRM_House rfl T.g_House T.b_House___init__ .nil LH.passN (pa_cons (pv 0) (pa_cons (pv 1) pa_nil))))
  (pss_cons (ps_set (i := 3) sc__law_great.nd rfl (Or.inl rfl) (pe_call G__law_own HR__law_own rfl T.g__law_own T.F__law_own.kp T.b__law_own .nil pass0 (pa_cons (pv 0) (pa_cons (pv 1) pa_nil))))
  (pss_cons (ps_for PassesOwn.never rfl (pi_range1 rfl T.n_range (pa_cons (pv 0) pa_nil)) (pg_name (i := 4) sc__law_great.nd rfl (Or.inl rfl))
    (pss_cons (ps_set (i := 5) sc__law_great.nd rfl (Or.inl rfl) (pe_tup (pa_cons pe_str (pa_cons pe_int (pa_cons pe_str (pa_cons (pe_op op_sub (pe_op op_sub (pv 0) pe_int) (pv 4)) pa_nil))))))
    (pss_one (ps_if (PW.pt (pw_and (pt_cmpR op_ne (pe_ix (r := rIxT K) ix_tup (pv 5) pe_int (fun _ _ => rfl)) (pv 1) (nomark _)) (pw_and1 (pt_cmpR (r := rNeD K) (op_neD hr.units) (pe_meth (pv 2) T.cl_House T.me_House_hear G_House_hear HR_House_hear T.b_House_hear .nil pass0 (pa_cons (pv 5) pa_nil)) (pe_call G__law_heard HR__law_heard rfl T.g__law_heard T.F__law_heard.kp T.b__law_heard .nil pass0 (pa_cons (pv 3) (pa_cons (pv 5) pa_nil))) (nomark _)))))
      (pss_one (ps_ret pe_bl))
      pss_nil))))
  (pss_one (ps_ret (pe_and (pe_cmpR (r := rEqDA) (op_eq_dictA hr.units0) (pe_meth0 (pv 2) T.cl_House T.me_House_ledger G_House_ledger HR_House_ledger T.b_House_ledger .nil pass0) (pe_disp (pps_cons pe_int pe_str pps_nil) rfl rfl (by intro h; cases h) (by decide)) (nomark _)) (pe_one (pe_cmpR (r := rEqD K) (op_eqD hr.units) (pe_meth (pv 2) T.cl_House T.me_House_backing G_House_backing HR_House_backing T.b_House_backing .nil LH.passN (pa_cons pe_int pa_nil)) (pe_dget (hu_of hr) (pe_dget (hu_of hr) (pv 3) pe_str (fun _ _ => rfl)) pe_int (fun _ _ => rfl)) (nomark _))))))))), ?_⟩
    walk_at "rd"
    refine LH.makev fun p dx H1 f1 f1' n1 e1 g1 => ?_
    refine ⟨p, dx, .int c, .int o, _, _, rfl, g1, .int _, .int _, fun b => (by rw [isW_yes (by omega) (by omega)] at b; cases b), fun i ei _ b => (by injection ei with ei; subst ei; rw [isW_yes (by omega) (by omega)] at b; cases b), fun i j ei ej _ _ _ _ h H2 hp new ks at_ => ⟨rfl, ?_⟩⟩
    injection ei with ei
    injection ej with ej
    subst ei ej hp
    have S0 : Std a.House h.S H2 h (HS.new c o) := ⟨at_ _, fun b hb => hb, (at_ fun _ => none).alive, Nat.zero_le _⟩
    have e02 : Same H (LH.Fr h.S H2) := fun b v hb => by
      have h1 : H1 b = some v := e1 _ _ hb
      have bp : b ≠ h.p := ne_of_none hb f1
      refine LH.fr_of (ks _ _ h1 (by simpa using bp)) fun m => ?_
      rw [new b m bp] at h1
      cases h1
    walk_at "rd"
    refine ⟨c, o, rfl, by omega, by omega, by omega, by omega, fun oa H3 newO e3 atO => ?_⟩
    walk_at "rd"
    have HA3 : ∀ F, HouseAt a.House F H3 h (HS.new c o) := fun F => (at_ F).to (Same.refl _) fun b o _ q => e3 _ _ q
    have dis : ∀ b ∈ oa.S, b ∉ h.S := fun b hb m => by
      obtain ⟨v, q⟩ := (at_ fun _ => none).alive b m
      rw [newO b hb] at q
      cases q
    have B3 : Both a.House (oa.S ++ h.S) H3 h oa [] (HS.new c o) := ⟨⟨HA3 _, fun b hb => List.mem_append.mpr (.inr hb), fun b hb => (List.mem_append.mp hb).elim ((atO fun _ => none).alive b) ((HA3 fun _ => none).alive b), Nat.zero_le _⟩, atO _, fun b hb => List.mem_append.mpr (.inl hb), dis⟩
    have e03 : Same H (LH.Fr (oa.S ++ h.S) H3) := fun b v hb => by
      obtain ⟨q1, q2⟩ := LH.fr_some (e02 _ _ hb)
      refine LH.fr_of (e3 _ _ q1) fun m => (List.mem_append.mp m).elim (fun m => ?_) q2
      rw [newO b m] at q1
      cases q1
    refine LH.rn1v (by omega) (by omega) ?_
    refine LH.for_R1 (fun i σ H' => (∃ o4 o5, σ = [some (.int c), some (.int o), some (.ref h.p), some (.ref oa.o), o4, o5]) ∧ ∃ h' l M, h'.p = h.p ∧ Both a.House M H' h' oa l (great c o i) ∧ Same H (LH.Fr M H')) ⟨⟨_, _, rfl⟩, h, [], _, rfl, B3, e03⟩ ?_ ?_
    · rintro i σ Ha hi ⟨⟨o4, o5, rfl⟩, h', l, M, hp', B, eF⟩
      have hi : i < c := by omega
      obtain ⟨w1, w2, w3, _⟩ := great_good (c := c) (o := o) (by omega) (by omega) (by omega) (by omega) i (by omega)
      walk_at "rd"
      refine LH.newt (LH.small rfl) fun t Hb fb eb gb => ?_
      walk_at "rd"
      refine LH.x_ixT (SqT.of gb) rfl ?_
      walk_at "rd"
      rw [dint]
      have ei : (0 : Int) + ((i : Nat) : Int) = (i : Int) := by omega
      rw [ei] at gb ⊢
      have Bb := B.same eb
      by_cases cc : (c : Int) - 1 - (i : Int) = (o : Int)
      · rw [decide_eq_true cc]
        walk_at "rd"
        refine ⟨⟨_, _, rfl⟩, h', l, M, hp', ?_, eF.trans (LH.same_fr eb)⟩
        have : great c o (i + 1) = great c o i := by
          show (if (c : Int) - 1 - (i : Int) = (o : Int) then great c o i else _) = _
          rw [if_pos cc]
        rw [this]
        exact Bb
      · rw [decide_eq_false cc]
        walk_at "rd"
        have eg : great c o (i + 1) = (great c o i).hear (gw c i) := by
          show (if (c : Int) - 1 - (i : Int) = (o : Int) then great c o i else _) = _
          rw [if_neg cc]
        have tM : t ∉ M := LH.not_in fb B.s.al
        have fit : Fit (great c o i) (gw c i) := ⟨⟨ok_markW, ⟨by show ("a" : Str).length ≤ 100000; decide +kernel, by show ("a" : Str).cps.all _ = true; decide +kernel⟩⟩, by show 0 ≤ (c : Int) - 1 - i; omega, by rw [w1]; show (c : Int) - 1 - i < c; omega⟩
        have om : ¬ ((gw c i).k = "mark" ∧ (gw c i).h = (great c o i).own) := fun q => cc (by rw [w2] at q; exact q.2)
        obtain ⟨dxb, hpb⟩ := Bb.s.self hp'
        refine LH.methv hpb rfl ?_
        walk_at "rd"
        refine ⟨h', great c o i, .ref t, gw c i, M, by rw [← hp']; rfl, Bb.s, ⟨t, rfl, LH.fr_of gb tM⟩, fit, by omega, fun Hc N h3 r1 xs1 nx f3 r1N g3 tw1 _ => ?_⟩
        walk_at "rd"
        have frc : Same (LH.Fr M Hb) (LH.Fr (N ++ M) Hc) := nx.fr Bb.s.sub
        have szh := size_hear (st := great c o i) (w := gw c i)
        have Sc : Std a.House (N ++ M) Hc h3 ((great c o i).hear (gw c i)) := Bb.s.next nx (by omega)
        have Oc := Bb.o.to frc fun b o hb q => nx.ks _ _ q (Bb.d b hb)
        have mc : ∀ b ∈ oa.S, b ∈ N ++ M := fun b hb => List.mem_append.mpr (.inr (Bb.m b hb))
        have dc : ∀ b ∈ oa.S, b ∉ h3.S := fun b hb m => by
          rcases nx.sub b m with m | m
          · exact Bb.d b hb m
          · obtain ⟨o, q⟩ := Bb.o.alive b hb
            rw [nx.nw b m] at q
            cases q
        have wc : WT (LH.Fr (N ++ M) Hc) (.ref t) (gw c i) := ⟨t, rfl, frc _ _ (LH.fr_of gb tM)⟩
        refine ⟨oa, l, great c o i, .ref t, gw c i, N ++ M, rfl, Oc, mc, Sc.al, wc, fit, om, by omega, fun Hd r2 xs2 l5 ksd Od fd gd tw2 => ?_⟩
        have Sd := Sc.ks ksd mc (fun b hb m => dc b m hb) Od.alive
        have r1S : r1 ∉ oa.S := fun m => by
          obtain ⟨o, q⟩ := Bb.o.alive r1 m
          rw [f3] at q
          cases q
        have oks : ∀ x ∈ (great c o i).hearT (gw c i), x.Ok := fun x hx => hearT_ok B.o.go fit hx
        have fcd : Same (LH.Fr (N ++ M) Hc) (LH.Fr (N ++ M) Hd) := ksd.frS mc
        refine LH.x_neD (.lst (SqL.of (ksd _ _ g3 r1S)) (words_dp LH.fr_le (tw1.up fcd))) (.lst (SqL.of gd) (words_dp LH.fr_le tw2)) (lay_words oks).shaped (lay_words oks).shaped ?_
        rw [(lay_words oks).refl]
        walk_at "rd"
        refine ⟨⟨_, _, rfl⟩, h3, l5, N ++ M, nx.p.trans hp', ?_, (eF.trans (LH.same_fr eb)).trans (frc.trans fcd)⟩
        rw [eg]
        exact ⟨Sd, Od, mc, dc⟩
    · rintro σ Ha ⟨⟨o4, o5, rfl⟩, h', l, M, hp', B, eF⟩
      have ec : ((c : Int)).toNat = c := by omega
      have B : Both a.House M Ha h' oa l (great c o c) := by simpa [ec] using B
      have go := B.o.go
      obtain ⟨dxa, hpa⟩ := B.s.self hp'
      have r1 : (great (c : Int) (o : Int) c).rows.length < 64 := by rw [rows]; decide
      walk_at "rd"
      refine LH.methv hpa rfl ?_
      walk_at "rd"
      refine ⟨h', _, _, by rw [← hp']; rfl, B.s.at_, r1, fun r Hb fb eb gb => ?_⟩
      walk_at "rd"
      refine x_disp fun p hp => ?_
      have ec' : Same Hb (upd Hb p (.dK [])) := LH.Same.new hp
      have gc : upd Hb p (.dK []) p = some (.dK []) := upd_same
      generalize upd Hb p (.dK []) = Hc at ec' gc
      refine x_pairs ?_
      walk_at "rd"
      refine x_pairs0 ?_
      refine ⟨gc, [(.inl 0, .str "a")], rfl, by show 1 ≤ 15; decide, ?_⟩
      have ed : Same Hb (upd Hc p (.dK (mergeK [] [(.inl 0, .str "a")]))) := fun b v q => by
        rw [upd_ne (ne_of_none q hp)]
        exact ec' _ _ q
      have gd : upd Hc p (.dK (mergeK [] [(.inl 0, .str "a")])) p = some (.dK [((.inl 0 : Key), V.str "a")]) := upd_same
      generalize upd Hc p (.dK (mergeK [] [(.inl 0, .str "a")])) = Hd at ed gd
      have el : ledK (great (c : Int) (o : Int) c) = [((.inl 0 : Key), V.str "a")] := by
        unfold ledK HS.nums HS.rowAt
        rw [rows]
        simp only [List.map_cons, List.map_nil, List.mergeSort_singleton]
        rfl
      have ebd := eb.trans ed
      refine LH.x_eqDA (ed _ _ gb) gd (by rw [el]) (fun q hq => ?_) ?_
      · rw [el] at hq
        rw [List.mem_singleton.mp hq]
        exact ⟨rfl, rfl⟩
      walk_at "rd"
      have Bd := B.same ebd
      obtain ⟨dxd, hpd⟩ := Bd.s.self hp'
      refine LH.methv hpd rfl ?_
      walk_at "rd"
      obtain ⟨ws, hws⟩ : ∃ ws, ((great (c : Int) (o : Int) c).backs.find? fun e => decide (e.1 = 0)) = some (0, ws) := by
        have eb0 : (great (c : Int) (o : Int) c).backs.map (·.1) = [0] := by rw [go.bn, rows]; rfl
        cases q : (great (c : Int) (o : Int) c).backs with
        | nil => rw [q] at eb0; cases eb0
        | cons e es =>
          rw [q] at eb0
          injection eb0 with e1 _
          refine ⟨e.2, ?_⟩
          have e1 : e.1 = 0 := e1
          rw [List.find?_cons_of_pos (by simp [e1])]
          exact congrArg some (Prod.ext e1 rfl)
      obtain ⟨kvb, gbb, pb⟩ := Bd.o.ba
      have okw : ∀ w ∈ ws, w.Ok := back_ok go (List.mem_of_find?_eq_some hws)
      refine ⟨h', _, _, .int 0, _, by rw [← hp']; rfl, Bd.s.at_, LH.fr_le, .int 0, .inl ⟨0, ws, rfl, hws, fun r2 He xs fe ee ge tw => ?_⟩⟩
      walk_at "rd"
      refine LH.getv (LH.getS (ee _ _ Bd.o.ob)) rfl ?_
      walk_at "rd"
      obtain ⟨v, hv, ⟨b', xs', rfl, hb', tw'⟩⟩ := (paired_get (f := fun x : Int × List Wrd => x.1) (G := fun v x => Bk (LH.Fr M Hd) v x.2) (fun _ _ q => q) (n := 0) pb).2 _ hws
      refine LH.getv (LH.getI (ee _ _ gbb)) hv ?_
      have sb : Same (LH.Fr M Hd) He := LH.fr_le.trans ee
      refine LH.x_eqD (.lst (SqL.of ge) (words_dp sb tw)) (.lst (SqL.of (sb _ _ hb')) (words_dp sb tw')) (lay_words okw).shaped (lay_words okw).shaped ?_
      rw [(lay_words okw).refl]
      exact k _ (((eF.trans LH.fr_le).trans ebd).trans ee)
end
end K6
namespace K6
open PySem L2 LM HM
local macro_rules | `(tactic| walk_at "rd1") => `(tactic| first
  | with_reducible refine LH.x_seq ?_
  | with_reducible refine LH.x_asg ?_
  | with_reducible refine LH.x_cons ?_
  | with_reducible refine LH.x_var (by with_unfolding_all exact rfl) ?_
  | with_reducible refine LH.x_c ?_
  | with_reducible refine LH.x_op ?_
  | with_reducible refine LH.x_gname ?_
  | with_reducible refine LH.x_nil ?_
  | with_reducible refine LH.x_I0 ?_
  | ((with_reducible refine LH.x_I ?k1 ?_); (case k1 => first | exact (by decide) | exact ⟨by decide, by decide⟩ | exact ⟨by decide, by decide, by decide⟩ | exact .inl ⟨by decide, by decide⟩ | exact .inr ⟨by decide, by decide⟩ | exact .inr ⟨by omega, by omega⟩ | exact .inl ⟨by omega, by omega⟩ | exact (by omega)))
  | with_reducible refine LH.x_ifS ?_
  | with_reducible refine LH.x_test ?_
  | with_reducible refine LH.x_tB ?_
  | with_reducible refine LH.bx ?_
  | with_reducible refine LH.x_and ?_
  | with_reducible refine LH.x_or ?_
  | with_reducible refine LH.x_not ?_
  | with_reducible refine LH.x_ret ?_
  | with_reducible refine LH.x_call ?_
  | with_reducible refine LH.x_cb ?_
  | with_reducible refine LH.x_lst ?_
  | with_reducible refine LH.x_tup ?_
  | with_reducible refine LH.x_bm ?_
  | with_reducible refine LH.x_drop ?_
  | with_reducible refine LH.x_next ?_
  | with_reducible refine LH.x_cont ?_
  | with_reducible refine LH.x_un ?_
  | with_reducible refine LH.x_U ?_
  | with_reducible refine LH.x_eq (by with_unfolding_all exact rfl) ?_
  | with_reducible refine LH.x_ne (by with_unfolding_all exact rfl) ?_
  | with_reducible refine LH.x_andV ?_
  | with_reducible refine LH.x_orV ?_
  | with_reducible refine LH.x_notV ?_
  | with_reducible refine LH.band ?_
  | with_reducible refine LH.bor ?_
  | with_reducible refine LH.x_if ?_
  | with_reducible refine LH.x_chain ?_
  | with_reducible refine LH.chk ?_
  | with_reducible refine LH.x_callS ?_
  | with_reducible refine LH.x_callE ?_
  | with_reducible refine LH.x_callV ?_
  | with_reducible refine LH.x_lrg ?_
  | with_reducible refine LH.x_lcS ?_
  | with_reducible refine LH.x_lcR1 ?_
  | with_reducible refine LH.x_forR1 ?_
  | with_reducible refine LH.x_forR3 ?_
  | with_reducible refine LH.strv ?_
  | with_reducible refine LH.x_yes ?_
  | with_reducible refine LH.x_sl ?_
  | with_reducible refine LH.x_noPart ?_
  | with_reducible refine LH.x_part ?_
  | with_reducible refine LH.pav ?_
  | with_reducible refine LH.x_jnv ?_
  | with_reducible refine LH.x_join ?_
  | with_reducible refine LH.x_inS ?_
  | with_reducible refine LH.x_niS ?_
  | with_reducible refine LH.x_isB ?_
  | with_reducible refine LH.x_isnB ?_
  | with_reducible refine LH.x_gcons ?_
  | with_reducible refine LH.x_gnil ?_
  | with_reducible refine LH.x_intB ?_
  | with_reducible refine LH.x_orT ?_
  | with_reducible refine LH.x_isTy ?_
  | with_reducible refine LH.x_niTy ?_
  | with_reducible refine LH.x_split ?_
  | with_reducible refine LH.x_spv ?_
  | with_reducible refine LH.x_gsub ?_
  | with_reducible refine LH.x_fmt ?_
  | with_reducible refine LH.x_js0 ?_
  | with_reducible refine LH.x_js ?_
  | with_reducible refine LH.x_rg1 ?_
  | with_reducible refine LH.x_forL ?_
  | with_reducible refine LH.x_abs ?_
  | with_reducible refine LH.x_rg2 ?_
  | with_reducible refine LH.rg1v ?_
  | with_reducible refine LH.rg2v ?_
  | with_reducible refine LH.x_forR2 ?_
  | with_reducible refine LH.x_lenSetG ?_
  | with_reducible refine LH.x_lc ?_
  | with_reducible refine LH.x_fld ?_
  | with_reducible refine LH.x_sfld ?_
  | with_reducible refine LH.x_afld ?_
  | with_reducible refine LH.x_meth ?_
  | with_reducible refine LH.x_make ?_
  | with_reducible refine LH.x_methSl ?_
  | with_reducible refine LH.x_makeSl ?_
  | with_reducible refine LH.x_din ?_
  | with_reducible refine LH.x_dni ?_
  | with_reducible refine LH.x_dget ?_
  | with_reducible refine LH.x_dput ?_
  | with_reducible refine LH.x_dget2 ?_
  | with_reducible refine LH.x_dpop1 ?_
  | with_reducible refine LH.x_litems ?_
  | with_reducible refine LH.x_tru ?_
  | with_reducible refine LH.x_revL ?_
  | with_reducible refine LH.x_dsetT ?_
  | with_reducible refine LH.x_lvals ?_
  | with_reducible refine LH.br_nt ?_
  | with_reducible refine LH.br_nf ?_
  | with_reducible refine LH.br_t ?_
  | with_reducible refine LH.br_f ?_)
local macro_rules | `(tactic| walk_at "rd") => `(tactic| repeat (walk_at "rd1"))
local macro_rules | `(tactic| walk_at "rs1") => `(tactic| first
  | with_reducible refine LH.x_seq ?_
  | with_reducible refine LH.x_cons ?_
  | with_reducible refine LH.x_var (by with_unfolding_all exact rfl) ?_
  | with_reducible refine LH.x_c ?_
  | with_reducible refine LH.x_op ?_
  | with_reducible refine LH.x_gname ?_
  | with_reducible refine LH.x_nil ?_
  | with_reducible refine LH.x_I0 ?_
  | ((with_reducible refine LH.x_I ?k1 ?_); (case k1 => first | exact (by decide) | exact ⟨by decide, by decide⟩ | exact ⟨by decide, by decide, by decide⟩ | exact .inl ⟨by decide, by decide⟩ | exact .inr ⟨by decide, by decide⟩ | exact .inr ⟨by omega, by omega⟩ | exact .inl ⟨by omega, by omega⟩ | exact (by omega)))
  | with_reducible refine LH.x_test ?_
  | with_reducible refine LH.x_tB ?_
  | with_reducible refine LH.bx ?_
  | with_reducible refine LH.x_and ?_
  | with_reducible refine LH.x_or ?_
  | with_reducible refine LH.x_not ?_
  | with_reducible refine LH.x_call ?_
  | with_reducible refine LH.x_cb ?_
  | with_reducible refine LH.x_lst ?_
  | with_reducible refine LH.x_tup ?_
  | with_reducible refine LH.x_bm ?_
  | with_reducible refine LH.x_next ?_
  | with_reducible refine LH.x_cont ?_
  | with_reducible refine LH.x_un ?_
  | with_reducible refine LH.x_U ?_
  | with_reducible refine LH.x_eq (by with_unfolding_all exact rfl) ?_
  | with_reducible refine LH.x_ne (by with_unfolding_all exact rfl) ?_
  | with_reducible refine LH.x_andV ?_
  | with_reducible refine LH.x_orV ?_
  | with_reducible refine LH.x_notV ?_
  | with_reducible refine LH.band ?_
  | with_reducible refine LH.bor ?_
  | with_reducible refine LH.x_if ?_
  | with_reducible refine LH.x_chain ?_
  | with_reducible refine LH.chk ?_
  | with_reducible refine LH.x_callS ?_
  | with_reducible refine LH.x_callE ?_
  | with_reducible refine LH.x_callV ?_
  | with_reducible refine LH.x_lrg ?_
  | with_reducible refine LH.x_lcS ?_
  | with_reducible refine LH.x_lcR1 ?_
  | with_reducible refine LH.strv ?_
  | with_reducible refine LH.x_yes ?_
  | with_reducible refine LH.x_sl ?_
  | with_reducible refine LH.x_noPart ?_
  | with_reducible refine LH.x_part ?_
  | with_reducible refine LH.pav ?_
  | with_reducible refine LH.x_jnv ?_
  | with_reducible refine LH.x_join ?_
  | with_reducible refine LH.x_inS ?_
  | with_reducible refine LH.x_niS ?_
  | with_reducible refine LH.x_isB ?_
  | with_reducible refine LH.x_isnB ?_
  | with_reducible refine LH.x_gcons ?_
  | with_reducible refine LH.x_gnil ?_
  | with_reducible refine LH.x_intB ?_
  | with_reducible refine LH.x_orT ?_
  | with_reducible refine LH.x_isTy ?_
  | with_reducible refine LH.x_niTy ?_
  | with_reducible refine LH.x_split ?_
  | with_reducible refine LH.x_spv ?_
  | with_reducible refine LH.x_gsub ?_
  | with_reducible refine LH.x_fmt ?_
  | with_reducible refine LH.x_js0 ?_
  | with_reducible refine LH.x_js ?_
  | with_reducible refine LH.x_rg1 ?_
  | with_reducible refine LH.x_abs ?_
  | with_reducible refine LH.x_rg2 ?_
  | with_reducible refine LH.rg1v ?_
  | with_reducible refine LH.rg2v ?_
  | with_reducible refine LH.x_lenSetG ?_
  | with_reducible refine LH.x_lc ?_
  | with_reducible refine LH.x_fld ?_
  | with_reducible refine LH.x_sfld ?_
  | with_reducible refine LH.x_afld ?_
  | with_reducible refine LH.x_meth ?_
  | with_reducible refine LH.x_make ?_
  | with_reducible refine LH.x_methSl ?_
  | with_reducible refine LH.x_makeSl ?_
  | with_reducible refine LH.x_din ?_
  | with_reducible refine LH.x_dni ?_
  | with_reducible refine LH.x_dget ?_
  | with_reducible refine LH.x_dput ?_
  | with_reducible refine LH.x_dget2 ?_
  | with_reducible refine LH.x_dpop1 ?_
  | with_reducible refine LH.x_litems ?_
  | with_reducible refine LH.x_tru ?_
  | with_reducible refine LH.x_revL ?_
  | with_reducible refine LH.x_dsetT ?_
  | with_reducible refine LH.x_lvals ?_
  | with_reducible refine LH.br_nt ?_
  | with_reducible refine LH.br_nf ?_
  | with_reducible refine LH.br_t ?_
  | with_reducible refine LH.br_f ?_)
local macro_rules | `(tactic| walk_at "rs") => `(tactic| repeat (walk_at "rs1"))

section
variable {P : Program} {w : World} {K : PySem.W.Frag} {mg : Str → Option Value} {base : Heap} {a : Ad}
theorem x_isTup {K : PySem.W.Frag} {H : Hp} {F : Hp} {x : V} {z : Int × Wrd × Wrd} (s : Same F H) (q : Nm F x z) : TyB K H x "tuple" := by
  obtain ⟨t, v1, v2, rfl, ht, _⟩ := q
  exact .tup (SqT.of (s _ _ ht))
theorem led_keys {st : HS} : (ledK st).map (·.1) = st.nums.map Sum.inl := by
  unfold ledK
  rw [List.map_map]
  rfl
theorem led_flat {st : HS} : ∀ e ∈ ledK st, flatB e.2 = true := fun e he => by
  unfold ledK at he
  obtain ⟨n, _, rfl⟩ := List.mem_map.mp he
  rfl
theorem nums_len {st : HS} : st.nums.length = st.rows.length := by
  unfold HS.nums
  rw [(List.mergeSort_perm _ _).length_eq, List.length_map]
theorem led_eq {st : HS} : ∀ p ∈ ledK st, valV (st.rows.map fun e => ((Sum.inl e.1 : Key), V.str e.2)) p.1 = some p.2 ∧ flatB p.2 = true := fun p hp => by
  unfold ledK at hp
  obtain ⟨n, hn, rfl⟩ := List.mem_map.mp hp
  exact ⟨rowAt_val (nums_mem.mp hn), rfl⟩
theorem back_none {st : HS} (g : Good st) {n : Int} (h : n ∉ st.rows.map (·.1)) : (st.backs.find? fun e => decide (e.1 = n)) = none := by
  refine List.find?_eq_none.mpr fun e he => ?_
  intro q
  refine h ?_
  rw [← g.bn]
  exact List.mem_map.mpr ⟨e, he, by simpa using q⟩
theorem back_some {st : HS} (g : Good st) {n : Int} (h : n ∈ st.rows.map (·.1)) : ∃ ws, (st.backs.find? fun e => decide (e.1 = n)) = some (n, ws) := by
  rw [← g.bn] at h
  obtain ⟨e0, he0, en⟩ := List.mem_map.mp h
  cases q : st.backs.find? fun e => decide (e.1 = n) with
  | none =>
    have := List.find?_eq_none.mp q e0 he0
    simp [en] at this
  | some e =>
    have : e.1 = n := by simpa using List.find?_some q
    exact ⟨e.2, by rw [← this]⟩
theorem rows_val {st : HS} {n : Int} (h : valV (st.rows.map fun e => ((Sum.inl e.1 : Key), V.str e.2)) (Sum.inl n) = none) : n ∉ st.rows.map (·.1) := fun q => by
  rw [rowAt_val q] at h
  cases h
theorem Both.kp {C : Addr} {M : List Addr} {H H' : Hp} {h : HA} {oa : OA} {l : List VW} {st : HS} {d : Addr} (B : Both C M H h oa l st) (k : LH.Kp d H H') (dM : d ∈ M) (dS : d ∉ h.S) (dO : d ∉ oa.S) (al : ∃ o, H' d = some o) : Both C M H' h oa l st := by
  have ks : LH.Ks [d] H H' := k.ks (List.mem_singleton.mpr rfl)
  have sub : ∀ b ∈ [d], b ∈ M := fun b hb => by rw [List.mem_singleton.mp hb]; exact dM
  have n1 : ∀ b, b ∉ [d] → b ≠ d := fun b n e => n (List.mem_singleton.mpr e)
  refine ⟨B.s.ks ks sub (fun b hb m => dS (by rw [List.mem_singleton.mp m] at hb; exact hb)) (fun b hb => by rw [List.mem_singleton.mp hb]; exact al), B.o.to (ks.frS sub) fun b o hb q => k b o q fun e => dO (e ▸ hb), B.m, B.d⟩
def spState (K : PySem.W.Frag) (C : Addr) : Sp := fun vs H Q _ => ∃ (h : HA) (oa : OA) (l : List VW) (st : HS) (M : List Addr) (d : Addr) (hs : List V), vs = [.ref h.p, .ref oa.o, .ref d] ∧ Both C M H h oa l st ∧ d ∈ M ∧ d ∉ h.S ∧ d ∉ oa.S ∧ H d = some (.lst hs) ∧ st.rows.length < 64 ∧ hs.length ≤ 90000 ∧
  ∀ H' new, LH.Kp d H H' → H' d = some (.lst (hs ++ new)) → (∀ x ∈ new, Hd K (LH.Fr M H') x) → new.length ≤ 66 → Q (.bl true) H'
theorem ok__law_state (T : Txt K mg a) : FnOk P w K mg base CX0 3 a._law_state a.d__law_state ["_law_house", "_law_own_here", "_law_held"] (spState K a.House) := by
  have G_House_backing := ok_House_backing (P := P) (w := w) (base := base) T
  have G_House_caught := ok_House_caught (P := P) (w := w) (base := base) T
  have G_House_ledger := ok_House_ledger (P := P) (w := w) (base := base) T
  have G__law_unwritten := ok__law_unwritten (P := P) (w := w) (base := base) T
  have G__law_words := ok__law_words (P := P) (w := w) (base := base) T
  refine T.F__law_state.ok sc__law_state (fun vs H Q E h => ?_) (fun cdv A outer s H vs Q E hr h => ?_)
  · obtain ⟨h, oa, l, st, M, d, hs, rfl, _⟩ := h
    rfl
  · obtain ⟨h, oa, l, st, M, d, hs, rfl, B, dM, dS, dO, gd, sz, hz, k⟩ := h
    have go := B.o.go
    obtain ⟨dx, hp⟩ := B.s.at_.ob
    have sF : Same (LH.Fr M H) H := LH.fr_le
    have HR_House_ledger : Room 1 _ := hr.mono (by decide)
    have HR_House_backing : Room 1 _ := hr.mono (by decide)
    have HR_House_caught : Room 1 _ := hr.mono (by decide)
    have HR__law_words : Room 2 _ := hr.mono (by decide)
    have HR__law_unwritten : Room 2 _ := hr.mono (by decide)
    refine ⟨_, (pss_cons (ps_set (i := 3) sc__law_state.nd rfl (Or.inl rfl) (pe_meth0 (pv 0) T.cl_House T.me_House_ledger G_House_ledger HR_House_ledger T.b_House_ledger .nil pass0))
  (pss_cons (ps_set (i := 4) sc__law_state.nd rfl (Or.inl rfl) (pe_meth0 (pv 0) T.cl_House T.me_House_caught G_House_caught HR_House_caught T.b_House_caught .nil pass0))
  (pss_cons (ps_if (PW.pt (pw_or (pt_not (pt_val (pe_callB (r := rIsi K) call_isi rfl T.n_isinstance (by decide +kernel) (pa_cons (pv 3) (pa_cons (pe_bltn (v := .ty "dict") rfl T.n_dict (by decide +kernel) rfl) pa_nil))))) (pw_or (pt_cmpR (r := rNeDA) (op_ne_dictA hr.units0) (pv 3) (pe_dget (hu_of hr) (pv 1) pe_str (fun _ _ => rfl)) (nomark _)) (pw_or1 (pt_cmpR (r := rNeD K) (op_neD hr.units) (pe_callTy (call_list_dK rfl) rfl T.n_list (by decide +kernel) (pa_cons (pv 3) pa_nil)) (pe_callB (LH.call_srtD rfl) rfl T.n_sorted (by decide +kernel) (pa_cons (pv 3) pa_nil)) (nomark _))))))
    (pss_one (ps_ret pe_bl))
    pss_nil)
  (pss_cons (ps_if (PW.pt (pw_or (pt_not (pt_val (pe_callB (r := rIsi K) call_isi rfl T.n_isinstance (by decide +kernel) (pa_cons (pv 4) (pa_cons (pe_bltn (v := .ty "list") rfl T.n_list (by decide +kernel) rfl) pa_nil))))) (pw_or1 (pt_cmpR (r := rNeD K) (op_neD hr.units) (pv 4) (pe_dget (hu_of hr) (pv 1) pe_str (fun _ _ => rfl)) (nomark _)))))
    (pss_one (ps_ret pe_bl))
    pss_nil)
  (pss_cons (ps_if (pt_cmpR (r := rNeD K) (op_neD hr.units) (pe_lc (own := [("_law_one", 5)]) (g := gName 5) rfl sc__law_state.nd (pi_list (pv 4)) (blkOk_by (N := N__law_state) (sc := defScope s__law_state) (by decide +kernel)) (fun _ _ _ _ _ => pg_name (i := 5) sc__law_state.nd rfl (Or.inl rfl)) (fun _ _ _ _ _ => (pts_one (pt_not (pt_val (pe_callB (r := rIsi K) call_isi rfl T.n_isinstance (by decide +kernel) (pa_cons (pv 5) (pa_cons (pe_bltn (v := .ty "tuple") rfl T.n_tuple (by decide +kernel) rfl) pa_nil))))))) (fun _ _ _ _ _ => (pv 5))) (pe_lst pa_nil) (nomark _))
    (pss_one (ps_ret pe_bl))
    pss_nil)
  (pss_cons (ps_expr (pe_bm PySem.F.plainAttrs_list PySem.F.slot_list_append PySem.F.type_list_append mt_append (pv 2) (pa_cons (pe_tup (pa_cons (pv 3) (pa_cons (pe_callTy LH.call_dictD0 rfl T.n_dict (by decide +kernel) (pa_cons (pv 3) pa_nil)) pa_nil))) pa_nil)))
  (pss_cons (ps_expr (pe_bm PySem.F.plainAttrs_list PySem.F.slot_list_append PySem.F.type_list_append mt_append (pv 2) (pa_cons (pe_tup (pa_cons (pv 4) (pa_cons (pe_callTy (r := LH.rListOf K) LH.call_listOf rfl T.n_list (by decide +kernel) (pa_cons (pv 4) pa_nil)) pa_nil))) pa_nil)))
  (pss_cons (ps_for PassesOwn.never rfl (pi_range1 rfl T.n_range (pa_cons pe_int pa_nil)) (pg_name (i := 6) sc__law_state.nd rfl (Or.inl rfl))
    (pss_one (ps_if (PW.pt (pw_and (pt_cmp (pc_dnotin (hu_of hr) (pv 6) (pe_dget (hu_of hr) (pv 1) pe_str (fun _ _ => rfl)))) (pw_and1 (pt_not (pt_val (pe_call G__law_unwritten HR__law_unwritten rfl T.g__law_unwritten T.F__law_unwritten.kp T.b__law_unwritten .nil pass0 (pa_cons (pv 0) (pa_cons (pv 6) pa_nil))))))))
      (pss_one (ps_ret pe_bl))
      pss_nil)))
  (pss_cons (ps_lock (ps_for PassesOwn.never rfl (pi_keys (pv 3)) (pg_name (i := 6) sc__law_state.nd rfl (Or.inl rfl))
    (pss_cons (ps_set (i := 7) sc__law_state.nd rfl (Or.inl rfl) (pe_meth (pv 0) T.cl_House T.me_House_backing G_House_backing HR_House_backing T.b_House_backing .nil LH.passN (pa_cons (pv 6) pa_nil)))
    (pss_cons (ps_if (PW.pt (pw_or (pt_not (pt_val (pe_call G__law_words HR__law_words rfl T.g__law_words T.F__law_words.kp T.b__law_words .nil pass0 (pa_cons (pv 7) pa_nil)))) (pw_or1 (pt_cmpR (r := rNeD K) (op_neD hr.units) (pv 7) (pe_dget (hu_of hr) (pe_dget (hu_of hr) (pv 1) pe_str (fun _ _ => rfl)) (pv 6) (fun _ _ => rfl)) (nomark _)))))
      (pss_one (ps_ret pe_bl))
      pss_nil)
    (pss_cons (ps_expr (pe_bm PySem.F.plainAttrs_list PySem.F.slot_list_append PySem.F.type_list_append mt_append (pv 2) (pa_cons (pe_tup (pa_cons (pv 7) (pa_cons (pe_callTy (r := LH.rListOf K) LH.call_listOf rfl T.n_list (by decide +kernel) (pa_cons (pv 7) pa_nil)) pa_nil))) pa_nil)))
    (pss_cons (ps_expr (pe_bm0 PySem.F.plainAttrs_list PySem.F.slot_list_clear PySem.F.type_list_clear mt_clear (pe_meth (pv 0) T.cl_House T.me_House_backing G_House_backing HR_House_backing T.b_House_backing .nil LH.passN (pa_cons (pv 6) pa_nil))))
    (pss_one (ps_if (pt_cmpR (r := rNeD K) (op_neD hr.units) (pe_meth (pv 0) T.cl_House T.me_House_backing G_House_backing HR_House_backing T.b_House_backing .nil LH.passN (pa_cons (pv 6) pa_nil)) (pv 7) (nomark _))
      (pss_one (ps_ret pe_bl))
      pss_nil))))))))
  (pss_one (ps_ret pe_bl))))))))))), ?_⟩
    walk_at "rd"
    refine LH.methv hp rfl ?_
    walk_at "rd"
    refine ⟨h, st, _, rfl, B.s.at_, sz, fun r1 H1 f1 e1 g1 => ?_⟩
    walk_at "rd"
    have B1 := B.same e1
    have r1M : r1 ∉ M := LH.not_in f1 B.s.al
    refine LH.methv (e1 _ _ hp) rfl ?_
    walk_at "rd"
    refine ⟨h, st, _, rfl, B.s.at_.to (Same.refl _) fun b o _ q => e1 _ _ q, fun r2 H2 kvn f2 e2 _ g2 p0 => ?_⟩
    have r2M : r2 ∉ M := LH.not_in f2 B1.s.al
    have e12 := e1.trans e2
    have B2 := B.same e12
    have g1' := e2 _ _ g1
    generalize kvn.map (·.2) = ns at g2 p0
    have p2 : Paired (Nm (LH.Fr M H2)) ns st.named := LH.Paired.imp (fun _ _ q => q.up (LH.same_fr e12)) p0
    walk_at "rd"
    refine LH.x_isiT (b := true) (.dK g1') (by decide +kernel) ?_
    walk_at "rd"
    refine LH.getv (LH.getS B2.o.ob) rfl ?_
    refine LH.x_neDA g1' B2.o.ro (by unfold ledK; rw [List.length_map, List.length_map, nums_len]) led_eq ?_
    walk_at "rd"
    refine LH.x_listDK g1' fun r3 H3 f3 e3 g3 => ?_
    walk_at "rd"
    refine LH.x_srtD (ks := st.nums) (e3 _ _ g1') led_keys (by rw [nums_len]; exact sz) fun ys r4 H4 per so f4 e4 g4 => ?_
    have ey : ys = st.nums := sort_eq (per.trans (List.mergeSort_perm _ _)) so go.rn
    subst ey
    have e34 := e3.trans e4
    have gi : ((ledK st).map fun kv => kV kv.1) = st.nums.map V.int := by unfold ledK; rw [List.map_map]; rfl
    rw [gi] at g3
    refine LH.x_neD (.lst (SqL.of (e4 _ _ g3)) (dp_ints _)) (.lst (SqL.of g4) (dp_ints _)) (lay_ints _).shaped (lay_ints _).shaped ?_
    rw [(lay_ints _).refl]
    walk_at "rd"
    have B4 := B2.same e34
    have g1'' := e34 _ _ g1'
    have g2' := e34 _ _ g2
    refine LH.x_isiT (b := true) (.lst (SqL.of g2')) (by decide +kernel) ?_
    walk_at "rd"
    obtain ⟨ns4, gn4, pn4⟩ := B4.o.nm
    refine LH.getv (LH.getS B4.o.ob) rfl ?_
    have f24 : Same (LH.Fr M H2) H4 := (LH.same_fr e34).trans LH.fr_le
    refine LH.x_neD (.lst (SqL.of g2') (names_dp f24 p2)) (.lst (SqL.of gn4) (names_dp LH.fr_le pn4)) (lay_names go).shaped (lay_names go).shaped ?_
    rw [(lay_names go).refl]
    walk_at "rd"
    have ln : ns.length ≤ 20000 := by
      have := B.s.sm
      unfold HS.size at this
      rw [LH.Paired.len p2]
      omega
    refine LH.lc_L (SqL.of g2') (by omega) (fun _ => false) id (fun _ => rfl) ?_ (fun _ _ h => by cases h) fun r5 H5 f5 e5 g5 => ?_
    · intro x hx H1 e1 Q q
      obtain ⟨z, _, hz⟩ := paired_left p2 x hx
      walk_at "rd"
      refine LH.x_isiT (b := true) (x_isTup (f24.trans e1) hz) (by decide +kernel) ?_
      walk_at "rd"
      exact q _ (Same.refl _)
    have g5' : H5 r5 = some (.lst []) := by
      rw [g5]
      have : (ns.filter fun _ => false) = [] := List.filter_eq_nil_iff.mpr (by simp)
      rw [this]
      rfl
    walk_at "rd"
    refine LH.newl (LH.small rfl) fun r6 H6 f6 e6 g6 => ?_
    walk_at "rd"
    refine LH.x_neD (.lst (SqL.of (e6 _ _ g5')) .nil) (.lst (SqL.of g6) .nil) (by decide +kernel) (by decide +kernel) ?_
    rw [show PyData.eqv (.list []) (.list []) = true by rw [eqv_nil]; rfl]
    walk_at "rd"
    have e16 := e12.trans (e34.trans (e5.trans e6))
    have e26 := e34.trans (e5.trans e6)
    have B6 := B.same e16
    refine LH.bm_l (SqL.of (e16 _ _ gd)) ?_
    walk_at "rd"
    refine LH.x_dictD (e26 _ _ g1') fun r7 H7 f7 e7 g7 => ?_
    walk_at "rd"
    refine LH.newt (LH.small rfl) fun t1 H8 f8 e8 g8 => ?_
    walk_at "rd"
    have e28 := e26.trans (e7.trans e8)
    have e18 := e12.trans e28
    have B8 := B.same e18
    have r7M := LH.not_in f7 B6.s.al
    have t1M := LH.not_in f8 (B6.same e7).s.al
    refine LH.x_appK (e18 _ _ gd) (by omega) fun H9 k9 g9 => ?_
    walk_at "rd"
    have ned : ∀ b, b ∉ M → b ≠ d := fun b n e => n (e ▸ dM)
    have B9 := B8.kp k9 dM dS dO ⟨_, g9⟩
    refine LH.bm_l (SqL.of g9) ?_
    walk_at "rd"
    refine LH.x_listOf (.inl (SqL.of (k9 _ _ (e28 _ _ g2) (ned _ r2M)))) fun r8 H10 f10 e10 g10 => ?_
    walk_at "rd"
    refine LH.newt (LH.small rfl) fun t2 H11 f11 e11 g11 => ?_
    walk_at "rd"
    have B11 := B9.same (e10.trans e11)
    have r8M := LH.not_in f10 B9.s.al
    have t2M := LH.not_in f11 (B9.same e10).s.al
    refine LH.x_appK ((e10.trans e11) _ _ g9) (by rw [List.length_append]; simp; omega) fun H12 k12 g12 => ?_
    walk_at "rd"
    have B12 := B11.kp k12 dM dS dO ⟨_, g12⟩
    have k0c : LH.Kp d H H12 := fun b o q n => k12 _ _ ((e10.trans e11) _ _ (k9 _ _ (e18 _ _ q) n)) n
    have k2c : LH.Kp d H2 H12 := fun b o q n => k12 _ _ ((e10.trans e11) _ _ (k9 _ _ (e28 _ _ q) n)) n
    have h1 : H12 r1 = some (.dK (ledK st)) := k2c _ _ g1' (ned _ r1M)
    have h2 : H12 r2 = some (.lst ns) := k2c _ _ g2 (ned _ r2M)
    have h7 : H12 r7 = some (.dK (ledK st)) := k12 _ _ ((e10.trans e11) _ _ (k9 _ _ (e8 _ _ g7) (ned _ r7M))) (ned _ r7M)
    have ht1 : H12 t1 = some (.tup [.ref r1, .ref r7]) := k12 _ _ ((e10.trans e11) _ _ (k9 _ _ g8 (ned _ t1M))) (ned _ t1M)
    have h8 : H12 r8 = some (.lst ns) := k12 _ _ (e11 _ _ g10) (ned _ r8M)
    have ht2 : H12 t2 = some (.tup [.ref r2, .ref r8]) := k12 _ _ g11 (ned _ t2M)
    refine LH.rn1v (by decide) (by decide) ?_
    refine LH.for_R1 (fun i σ H' => (∃ o5 o6 o7, σ = [some (.ref h.p), some (.ref oa.o), some (.ref d), some (.ref r1), some (.ref r2), o5, o6, o7]) ∧ Same H12 H') ⟨⟨_, _, _, rfl⟩, Same.refl _⟩ ?_ ?_
    · rintro i σ Ha hi ⟨⟨o5, o6, o7, rfl⟩, ea⟩
      have Ba := B12.same ea
      walk_at "rd"
      refine LH.getv (LH.getS Ba.o.ob) rfl ?_
      refine LH.niv (LH.getI Ba.o.ro) ?_
      cases q : valV (st.rows.map fun e => ((Sum.inl e.1 : Key), V.str e.2)) (Sum.inl ((0 : Int) + (i : Int))) with
      | some v =>
        walk_at "rd"
        exact ⟨⟨_, _, _, rfl⟩, ea⟩
      | none =>
        walk_at "rd"
        refine LH.br_eq (b' := true) rfl ?_
        walk_at "rd"
        refine ⟨h, st, _, _, rfl, Ba.s.at_, LH.fr_le, back_none go (rows_val q), fun Hb eb => ?_⟩
        walk_at "rd"
        exact ⟨⟨_, _, _, rfl⟩, ea.trans eb⟩
    · rintro σ Ha ⟨⟨o5, o6, o7, rfl⟩, ea⟩
      walk_at "rd"
      have n1 : H r1 = none := f1
      have r1d : r1 ≠ d := ned _ r1M
      have hold : ∀ Hb, LH.Kp d H Hb → HouseAt a.House (LH.Fr M H) Hb h st ∧ OwnAt (LH.Fr M H) Hb oa l st ∧ Same (LH.Fr M H) Hb := fun Hb kb => by
        refine ⟨B.s.at_.to (Same.refl _) fun b o hb q => kb b o q fun e => dS (e ▸ hb), B.o.to (Same.refl _) fun b o hb q => kb b o q fun e => dO (e ▸ hb), fun b o q => ?_⟩
        obtain ⟨q1, q2⟩ := LH.fr_some q
        exact kb b o q1 fun e => q2 (e ▸ dM)
      refine LH.lock_keys (kvs := ledK st) rfl (ea _ _ h1) (fun od n σ Hb => (∃ o5 o6 o7, σ = [some (.ref h.p), some (.ref oa.o), some (.ref d), some (.ref r1), some (.ref r2), o5, o6, o7]) ∧ LH.Kp d H Hb ∧ Hb r1 = some (.frz od (.dK (ledK st))) ∧ Hb t1 = some (.tup [.ref r1, .ref r7]) ∧ Hb r7 = some (.dK (ledK st)) ∧ Hd K (LH.Fr (r1 :: M) Hb) (.ref t2) ∧ ∃ more, Hb d = some (.lst (hs ++ [.ref t1] ++ [.ref t2] ++ more)) ∧ more.length = n ∧ ∀ x ∈ more, Hd K (LH.Fr (r1 :: M) Hb) x) ?_ ?_ ?_ ?_
      · intro od
        have kz : LH.Kp d H (upd Ha r1 (.frz od (.dK (ledK st)))) := fun b o q n => by
          rw [upd_ne (fun e => by rw [e, n1] at q; cases q)]
          exact ea _ _ (k0c _ _ q n)
        have nr : ∀ b o, b ≠ r1 → H12 b = some o → upd Ha r1 (.frz od (.dK (ledK st))) b = some o := fun b o n q => by
          rw [upd_ne n]
          exact ea _ _ q
        have r71 : r7 ≠ r1 := fun e => by rw [e, e26 _ _ g1'] at f7; cases f7
        have t11 : t1 ≠ r1 := fun e => by rw [e, (e26.trans e7) _ _ g1'] at f8; cases f8
        have e9 : H9 r1 = some (.dK (ledK st)) := k9 _ _ (e28 _ _ g1') r1d
        have r81 : r8 ≠ r1 := fun e => by rw [e, e9] at f10; cases f10
        have t21 : t2 ≠ r1 := fun e => by rw [e, e10 _ _ e9] at f11; cases f11
        have r21 : r2 ≠ r1 := fun e => by rw [e, g1] at f2; cases f2
        have inn : ∀ b o, b ≠ r1 → b ∉ M → H12 b = some o → LH.Fr (r1 :: M) (upd Ha r1 (.frz od (.dK (ledK st)))) b = some o := fun b o n m q => LH.fr_of (nr b o n q) fun w => (List.mem_cons.mp w).elim n m
        have sN : Same (LH.Fr M H) (LH.Fr (r1 :: M) (upd Ha r1 (.frz od (.dK (ledK st))))) := fun b o q => by
          obtain ⟨q1, q2⟩ := LH.fr_some q
          exact LH.fr_of (kz b o q1 fun e => q2 (e ▸ dM)) fun w => (List.mem_cons.mp w).elim (fun e => by rw [e, n1] at q1; cases q1) q2
        refine ⟨⟨_, _, _, rfl⟩, kz, upd_same, nr _ _ t11 ht1, nr _ _ r71 h7, ⟨t2, _, _, rfl, inn _ _ t21 t2M ht2, .inl ⟨_, .lst (SqL.of (inn _ _ r21 r2M h2)) (names_dp sN p0), .lst (SqL.of (inn _ _ r81 r8M h8)) (names_dp sN p0), (lay_names go).shaped⟩⟩, [], by rw [nr _ _ (Ne.symm r1d) g12, List.append_nil], rfl, fun x hx => nomatch hx⟩
      · rintro od n σ Hb ⟨_, _, q, _⟩
        exact q
      · rintro od n ky v σ Hb hkv ⟨⟨o5, o6, o7, rfl⟩, k0, gz, gt1, g7, hd2, more, gd, lm, hm⟩
        have hnk : n < (ledK st).length := (List.getElem?_eq_some_iff.mp hkv).1
        have lk : (ledK st).length < 64 := by unfold ledK; rw [List.length_map, nums_len]; exact sz
        obtain ⟨n0, hn0, en0⟩ : ∃ n0 ∈ st.nums, ky = Sum.inl n0 := by
          have := List.mem_of_getElem? hkv
          unfold ledK at this
          obtain ⟨n0, hn0, e⟩ := List.mem_map.mp this
          injection e with e _
          exact ⟨n0, hn0, e.symm⟩
        subst en0
        obtain ⟨ws, hws⟩ := back_some go (nums_mem.mp hn0)
        have okw : ∀ w ∈ ws, w.Ok := back_ok go (List.mem_of_find?_eq_some hws)
        show gName 6 (V.int n0) _ _ _
        obtain ⟨S0, O0, sF0⟩ := hold Hb k0
        obtain ⟨dx0, hp0⟩ := S0.ob
        walk_at "rd"
        refine LH.methv hp0 rfl ?_
        walk_at "rd"
        refine ⟨h, st, _, .int n0, _, rfl, S0, sF0, .int n0, .inl ⟨n0, ws, rfl, hws, fun rb A1 xs fb ea1 gb tw => ?_⟩⟩
        have k1 : LH.Kp d H A1 := fun b o q n => ea1 _ _ (k0 _ _ q n)
        obtain ⟨S1, O1, sF1⟩ := hold A1 k1
        walk_at "rd"
        refine ⟨rb, xs, ws, rfl, gb, tw.up sF1, ?_⟩
        walk_at "rd"
        refine LH.getv (LH.getS O1.ob) rfl ?_
        walk_at "rd"
        obtain ⟨kvb, gkb, pb⟩ := O1.ba
        obtain ⟨v2, hv2, ⟨b2, xs2, rfl, hb2, tw2⟩⟩ := (paired_get (f := fun x : Int × List Wrd => x.1) (G := fun v x => Bk (LH.Fr M H) v x.2) (fun _ _ q => q) (n := n0) pb).2 _ hws
        refine LH.getv (LH.getI gkb) hv2 ?_
        refine LH.x_neD (.lst (SqL.of gb) (words_dp sF1 tw)) (.lst (SqL.of (sF1 _ _ hb2)) (words_dp sF1 tw2)) (lay_words okw).shaped (lay_words okw).shaped ?_
        rw [(lay_words okw).refl]
        walk_at "rd"
        refine LH.bm_l (SqL.of (ea1 _ _ gd)) ?_
        walk_at "rd"
        refine LH.x_listOf (.inl (SqL.of gb)) fun rc A2 fc ea2 gc => ?_
        walk_at "rd"
        refine LH.newt (LH.small rfl) fun tn A3 fn ea3 gn => ?_
        walk_at "rd"
        have ea13 := ea2.trans ea3
        refine LH.x_appK ((ea1.trans ea13) _ _ gd) (by simp only [List.length_append, List.length_singleton]; omega) fun A4 k4 gd4 => ?_
        walk_at "rd"
        refine LH.x_bm0 ?_
        walk_at "rd"
        have k4' : LH.Kp d H A4 := fun b o q n => k4 _ _ (ea13 _ _ (k1 _ _ q n)) n
        obtain ⟨S4, O4, sF4⟩ := hold A4 k4'
        obtain ⟨dx4, hp4⟩ := S4.ob
        refine LH.methv hp4 rfl ?_
        walk_at "rd"
        refine ⟨h, st, _, .int n0, _, rfl, S4, sF4, .int n0, .inl ⟨n0, ws, rfl, hws, fun rd A5 xs5 fd5 ea5 gd5 tw5 => ?_⟩⟩
        refine LH.bm0_l (SqL.of gd5) ?_
        refine LH.x_clear gd5 fun A6 k6 g6 => ?_
        walk_at "rd"
        have back : ∀ b o, b ≠ d → Hb b = some o → A6 b = some o := fun b o n q => by
          have q4 := k4 _ _ (ea13 _ _ (ea1 _ _ q)) n
          exact k6 _ _ (ea5 _ _ q4) fun e => by rw [e, fd5] at q4; cases q4
        have k6' : LH.Kp d H A6 := fun b o q n => back b o n (k0 b o q n)
        obtain ⟨S6, O6, sF6⟩ := hold A6 k6'
        obtain ⟨dx6, hp6⟩ := S6.ob
        refine LH.methv hp6 rfl ?_
        walk_at "rd"
        refine ⟨h, st, _, .int n0, _, rfl, S6, sF6, .int n0, .inl ⟨n0, ws, rfl, hws, fun re A7 xs7 f7' ea7 g7' tw7 => ?_⟩⟩
        have gb7 : A7 rb = some (.lst xs) := ea7 _ _ (k6 _ _ (ea5 _ _ (k4 _ _ (ea13 _ _ gb) (fun e => by rw [e, gd] at fb; cases fb))) fun e => by
          have := k4 _ _ (ea13 _ _ gb) (fun e => by rw [e, gd] at fb; cases fb)
          rw [e, fd5] at this
          cases this)
        have sF7 := sF6.trans ea7
        walk_at "rd"
        refine LH.x_neD (.lst (SqL.of g7') (words_dp sF7 tw7)) (.lst (SqL.of gb7) (words_dp sF7 tw)) (lay_words okw).shaped (lay_words okw).shaped ?_
        rw [(lay_words okw).refl]
        walk_at "rd"
        have bak7 : ∀ b o, b ≠ d → Hb b = some o → A7 b = some o := fun b o n q => ea7 _ _ (back b o n q)
        have n1 : H r1 = none := f1
        have bakA : ∀ b o, b ≠ d → A3 b = some o → A7 b = some o := fun b o n q => by
          have q4 := k4 _ _ q n
          exact ea7 _ _ (k6 _ _ (ea5 _ _ q4) fun e => by rw [e, fd5] at q4; cases q4)
        have alM : ∀ b, b ∈ r1 :: M → ∃ o, Hb b = some o := fun b m => by
          rcases List.mem_cons.mp m with e | m
          · rw [e]; exact ⟨_, gz⟩
          · by_cases c : b = d
            · rw [c]; exact ⟨_, gd⟩
            · obtain ⟨o, q⟩ := B.s.al b m
              exact ⟨o, k0 _ _ q c⟩
        have alA1 : ∀ b, b ∈ r1 :: M → ∃ o, A1 b = some o := fun b m => let ⟨o, q⟩ := alM b m; ⟨o, ea1 _ _ q⟩
        have alA2 : ∀ b, b ∈ r1 :: M → ∃ o, A2 b = some o := fun b m => let ⟨o, q⟩ := alA1 b m; ⟨o, ea2 _ _ q⟩
        have rbM : rb ∉ r1 :: M := LH.not_in fb alM
        have rcM : rc ∉ r1 :: M := LH.not_in fc alA1
        have tnM : tn ∉ r1 :: M := LH.not_in fn alA2
        have nd : ∀ b, b ∉ r1 :: M → b ≠ d := fun b n e => n (List.mem_cons.mpr (.inr (e ▸ dM)))
        have sFr : Same (LH.Fr (r1 :: M) Hb) (LH.Fr (r1 :: M) A7) := fun b o q => by
          obtain ⟨q1, q2⟩ := LH.fr_some q
          exact LH.fr_of (bak7 b o (nd b q2) q1) q2
        have sN : Same (LH.Fr M H) (LH.Fr (r1 :: M) A7) := fun b o q => by
          obtain ⟨q1, q2⟩ := LH.fr_some q
          have nb : b ≠ d := fun e => q2 (e ▸ dM)
          exact LH.fr_of (bak7 b o nb (k0 _ _ q1 nb)) fun w => (List.mem_cons.mp w).elim (fun e => by rw [e, n1] at q1; cases q1) q2
        have r1d2 : r1 ≠ d := r1d
        refine ⟨⟨_, _, _, rfl⟩, fun b o q n => bak7 b o n (k0 _ _ q n), bak7 _ _ r1d2 gz, bak7 _ _ (ned _ t1M) gt1, bak7 _ _ (ned _ r7M) g7, hd2.up sFr, more ++ [.ref tn], ?_, by rw [List.length_append, List.length_singleton, lm], fun x hx => ?_⟩
        · have q4 := gd4
          have := ea7 _ _ (k6 _ _ (ea5 _ _ q4) fun e => by rw [e, fd5] at q4; cases q4)
          rw [this]
          simp only [List.append_assoc]
        · rcases List.mem_append.mp hx with hx | hx
          · exact (hm x hx).up sFr
          · rw [List.mem_singleton.mp hx]
            exact ⟨tn, _, _, rfl, LH.fr_of (bakA _ _ (nd _ tnM) gn) tnM, .inl ⟨_, .lst (SqL.of (LH.fr_of gb7 rbM)) (words_dp sN tw), .lst (SqL.of (LH.fr_of (bakA _ _ (nd _ rcM) (ea3 _ _ gc)) rcM)) (words_dp sN tw), (lay_words okw).shaped⟩⟩
      · rintro od σ Hb ⟨⟨o5, o6, o7, rfl⟩, k0, gz, gt1, g7, hd2, more, gd, lm, hm⟩
        walk_at "rd"
        have r1d' : d ≠ r1 := Ne.symm r1d
        have up : Same (LH.Fr (r1 :: M) Hb) (LH.Fr M (upd Hb r1 (.dK (ledK st)))) := fun b o q => by
          obtain ⟨q1, q2⟩ := LH.fr_some q
          have n1 : b ≠ r1 := fun e => q2 (List.mem_cons.mpr (.inl e))
          exact LH.fr_of (by rw [upd_ne n1]; exact q1) fun m => q2 (List.mem_cons.mpr (.inr m))
        have t11 : t1 ≠ r1 := fun e => by rw [e, gz] at gt1; cases gt1
        have r71 : r7 ≠ r1 := fun e => by rw [e, gz] at g7; cases g7
        refine k (upd Hb r1 (.dK (ledK st))) ([.ref t1] ++ [.ref t2] ++ more) (fun b o q n => ?_) ?_ ?_ ?_
        · rw [upd_ne (fun e => by rw [e, n1] at q; cases q)]
          exact k0 b o q n
        · rw [upd_ne r1d', gd]
          simp only [List.append_assoc]
        · intro x hx
          rcases List.mem_append.mp hx with hx | hx
          rcases List.mem_append.mp hx with hx | hx
          · rw [List.mem_singleton.mp hx]
            refine ⟨t1, _, _, rfl, LH.fr_of (by rw [upd_ne t11]; exact gt1) t1M, .inr ⟨r1, r7, ledK st, rfl, rfl, LH.fr_of upd_same r1M, LH.fr_of (by rw [upd_ne r71]; exact g7) r7M, ?_, led_flat⟩⟩
            rw [led_keys]
            exact List.pairwise_map.mpr ((nums_nodup go).imp fun n q => n (Sum.inl.inj q))
          · rw [List.mem_singleton.mp hx]
            exact hd2.up up
          · exact (hm x hx).up up
        · have lk : (ledK st).length < 64 := by unfold ledK; rw [List.length_map, nums_len]; exact sz
          simp only [List.length_append, List.length_singleton, lm]
          omega
end
end K6
namespace K6
open PySem L2 LM HM
local macro_rules | `(tactic| walk_at "rd1") => `(tactic| first
  | with_reducible refine LH.x_seq ?_
  | with_reducible refine LH.x_asg ?_
  | with_reducible refine LH.x_cons ?_
  | with_reducible refine LH.x_var (by with_unfolding_all exact rfl) ?_
  | with_reducible refine LH.x_c ?_
  | with_reducible refine LH.x_op ?_
  | with_reducible refine LH.x_gname ?_
  | with_reducible refine LH.x_nil ?_
  | with_reducible refine LH.x_I0 ?_
  | ((with_reducible refine LH.x_I ?k1 ?_); (case k1 => first | exact (by decide) | exact ⟨by decide, by decide⟩ | exact ⟨by decide, by decide, by decide⟩ | exact .inl ⟨by decide, by decide⟩ | exact .inr ⟨by decide, by decide⟩ | exact .inr ⟨by omega, by omega⟩ | exact .inl ⟨by omega, by omega⟩ | exact (by omega)))
  | with_reducible refine LH.x_ifS ?_
  | with_reducible refine LH.x_test ?_
  | with_reducible refine LH.x_tB ?_
  | with_reducible refine LH.bx ?_
  | with_reducible refine LH.x_and ?_
  | with_reducible refine LH.x_or ?_
  | with_reducible refine LH.x_not ?_
  | with_reducible refine LH.x_ret ?_
  | with_reducible refine LH.x_call ?_
  | with_reducible refine LH.x_cb ?_
  | with_reducible refine LH.x_lst ?_
  | with_reducible refine LH.x_tup ?_
  | with_reducible refine LH.x_bm ?_
  | with_reducible refine LH.x_drop ?_
  | with_reducible refine LH.x_next ?_
  | with_reducible refine LH.x_cont ?_
  | with_reducible refine LH.x_un ?_
  | with_reducible refine LH.x_U ?_
  | with_reducible refine LH.x_eq (by with_unfolding_all exact rfl) ?_
  | with_reducible refine LH.x_ne (by with_unfolding_all exact rfl) ?_
  | with_reducible refine LH.x_andV ?_
  | with_reducible refine LH.x_orV ?_
  | with_reducible refine LH.x_notV ?_
  | with_reducible refine LH.band ?_
  | with_reducible refine LH.bor ?_
  | with_reducible refine LH.x_if ?_
  | with_reducible refine LH.x_chain ?_
  | with_reducible refine LH.chk ?_
  | with_reducible refine LH.x_callS ?_
  | with_reducible refine LH.x_callE ?_
  | with_reducible refine LH.x_callV ?_
  | with_reducible refine LH.x_lrg ?_
  | with_reducible refine LH.x_lcS ?_
  | with_reducible refine LH.x_lcR1 ?_
  | with_reducible refine LH.x_forR1 ?_
  | with_reducible refine LH.x_forR3 ?_
  | with_reducible refine LH.strv ?_
  | with_reducible refine LH.x_yes ?_
  | with_reducible refine LH.x_sl ?_
  | with_reducible refine LH.x_noPart ?_
  | with_reducible refine LH.x_part ?_
  | with_reducible refine LH.pav ?_
  | with_reducible refine LH.x_jnv ?_
  | with_reducible refine LH.x_join ?_
  | with_reducible refine LH.x_inS ?_
  | with_reducible refine LH.x_niS ?_
  | with_reducible refine LH.x_isB ?_
  | with_reducible refine LH.x_isnB ?_
  | with_reducible refine LH.x_gcons ?_
  | with_reducible refine LH.x_gnil ?_
  | with_reducible refine LH.x_intB ?_
  | with_reducible refine LH.x_orT ?_
  | with_reducible refine LH.x_isTy ?_
  | with_reducible refine LH.x_niTy ?_
  | with_reducible refine LH.x_split ?_
  | with_reducible refine LH.x_spv ?_
  | with_reducible refine LH.x_gsub ?_
  | with_reducible refine LH.x_fmt ?_
  | with_reducible refine LH.x_js0 ?_
  | with_reducible refine LH.x_js ?_
  | with_reducible refine LH.x_rg1 ?_
  | with_reducible refine LH.x_forL ?_
  | with_reducible refine LH.x_abs ?_
  | with_reducible refine LH.x_rg2 ?_
  | with_reducible refine LH.rg1v ?_
  | with_reducible refine LH.rg2v ?_
  | with_reducible refine LH.x_forR2 ?_
  | with_reducible refine LH.x_lenSetG ?_
  | with_reducible refine LH.x_lc ?_
  | with_reducible refine LH.x_fld ?_
  | with_reducible refine LH.x_sfld ?_
  | with_reducible refine LH.x_afld ?_
  | with_reducible refine LH.x_meth ?_
  | with_reducible refine LH.x_make ?_
  | with_reducible refine LH.x_methSl ?_
  | with_reducible refine LH.x_makeSl ?_
  | with_reducible refine LH.x_din ?_
  | with_reducible refine LH.x_dni ?_
  | with_reducible refine LH.x_dget ?_
  | with_reducible refine LH.x_dput ?_
  | with_reducible refine LH.x_dget2 ?_
  | with_reducible refine LH.x_dpop1 ?_
  | with_reducible refine LH.x_litems ?_
  | with_reducible refine LH.x_tru ?_
  | with_reducible refine LH.x_revL ?_
  | with_reducible refine LH.x_dsetT ?_
  | with_reducible refine LH.x_lvals ?_
  | with_reducible refine LH.br_nt ?_
  | with_reducible refine LH.br_nf ?_
  | with_reducible refine LH.br_t ?_
  | with_reducible refine LH.br_f ?_)
local macro_rules | `(tactic| walk_at "rd") => `(tactic| repeat (walk_at "rd1"))
local macro_rules | `(tactic| walk_at "rs1") => `(tactic| first
  | with_reducible refine LH.x_seq ?_
  | with_reducible refine LH.x_cons ?_
  | with_reducible refine LH.x_var (by with_unfolding_all exact rfl) ?_
  | with_reducible refine LH.x_c ?_
  | with_reducible refine LH.x_op ?_
  | with_reducible refine LH.x_gname ?_
  | with_reducible refine LH.x_nil ?_
  | with_reducible refine LH.x_I0 ?_
  | ((with_reducible refine LH.x_I ?k1 ?_); (case k1 => first | exact (by decide) | exact ⟨by decide, by decide⟩ | exact ⟨by decide, by decide, by decide⟩ | exact .inl ⟨by decide, by decide⟩ | exact .inr ⟨by decide, by decide⟩ | exact .inr ⟨by omega, by omega⟩ | exact .inl ⟨by omega, by omega⟩ | exact (by omega)))
  | with_reducible refine LH.x_test ?_
  | with_reducible refine LH.x_tB ?_
  | with_reducible refine LH.bx ?_
  | with_reducible refine LH.x_and ?_
  | with_reducible refine LH.x_or ?_
  | with_reducible refine LH.x_not ?_
  | with_reducible refine LH.x_call ?_
  | with_reducible refine LH.x_cb ?_
  | with_reducible refine LH.x_lst ?_
  | with_reducible refine LH.x_tup ?_
  | with_reducible refine LH.x_bm ?_
  | with_reducible refine LH.x_next ?_
  | with_reducible refine LH.x_cont ?_
  | with_reducible refine LH.x_un ?_
  | with_reducible refine LH.x_U ?_
  | with_reducible refine LH.x_eq (by with_unfolding_all exact rfl) ?_
  | with_reducible refine LH.x_ne (by with_unfolding_all exact rfl) ?_
  | with_reducible refine LH.x_andV ?_
  | with_reducible refine LH.x_orV ?_
  | with_reducible refine LH.x_notV ?_
  | with_reducible refine LH.band ?_
  | with_reducible refine LH.bor ?_
  | with_reducible refine LH.x_if ?_
  | with_reducible refine LH.x_chain ?_
  | with_reducible refine LH.chk ?_
  | with_reducible refine LH.x_callS ?_
  | with_reducible refine LH.x_callE ?_
  | with_reducible refine LH.x_callV ?_
  | with_reducible refine LH.x_lrg ?_
  | with_reducible refine LH.x_lcS ?_
  | with_reducible refine LH.x_lcR1 ?_
  | with_reducible refine LH.strv ?_
  | with_reducible refine LH.x_yes ?_
  | with_reducible refine LH.x_sl ?_
  | with_reducible refine LH.x_noPart ?_
  | with_reducible refine LH.x_part ?_
  | with_reducible refine LH.pav ?_
  | with_reducible refine LH.x_jnv ?_
  | with_reducible refine LH.x_join ?_
  | with_reducible refine LH.x_inS ?_
  | with_reducible refine LH.x_niS ?_
  | with_reducible refine LH.x_isB ?_
  | with_reducible refine LH.x_isnB ?_
  | with_reducible refine LH.x_gcons ?_
  | with_reducible refine LH.x_gnil ?_
  | with_reducible refine LH.x_intB ?_
  | with_reducible refine LH.x_orT ?_
  | with_reducible refine LH.x_isTy ?_
  | with_reducible refine LH.x_niTy ?_
  | with_reducible refine LH.x_split ?_
  | with_reducible refine LH.x_spv ?_
  | with_reducible refine LH.x_gsub ?_
  | with_reducible refine LH.x_fmt ?_
  | with_reducible refine LH.x_js0 ?_
  | with_reducible refine LH.x_js ?_
  | with_reducible refine LH.x_rg1 ?_
  | with_reducible refine LH.x_abs ?_
  | with_reducible refine LH.x_rg2 ?_
  | with_reducible refine LH.rg1v ?_
  | with_reducible refine LH.rg2v ?_
  | with_reducible refine LH.x_lenSetG ?_
  | with_reducible refine LH.x_lc ?_
  | with_reducible refine LH.x_fld ?_
  | with_reducible refine LH.x_sfld ?_
  | with_reducible refine LH.x_afld ?_
  | with_reducible refine LH.x_meth ?_
  | with_reducible refine LH.x_make ?_
  | with_reducible refine LH.x_methSl ?_
  | with_reducible refine LH.x_makeSl ?_
  | with_reducible refine LH.x_din ?_
  | with_reducible refine LH.x_dni ?_
  | with_reducible refine LH.x_dget ?_
  | with_reducible refine LH.x_dput ?_
  | with_reducible refine LH.x_dget2 ?_
  | with_reducible refine LH.x_dpop1 ?_
  | with_reducible refine LH.x_litems ?_
  | with_reducible refine LH.x_tru ?_
  | with_reducible refine LH.x_revL ?_
  | with_reducible refine LH.x_dsetT ?_
  | with_reducible refine LH.x_lvals ?_
  | with_reducible refine LH.br_nt ?_
  | with_reducible refine LH.br_nf ?_
  | with_reducible refine LH.br_t ?_
  | with_reducible refine LH.br_f ?_)
local macro_rules | `(tactic| walk_at "rs") => `(tactic| repeat (walk_at "rs1"))

section
variable {P : Program} {w : World} {K : PySem.W.Frag} {mg : Str → Option Value} {base : Heap} {a : Ad}
def set2 {α : Type} (f : Bool → α) (x : Bool) (v : α) : Bool → α := fun y => if y = x then v else f y
theorem set2_same {α : Type} {f : Bool → α} {x : Bool} {v : α} : set2 f x v x = v := if_pos rfl
theorem set2_other {α : Type} {f : Bool → α} {x : Bool} {v : α} : set2 f x v (!x) = f (!x) := if_neg (by cases x <;> decide)
theorem bool2 {p : Bool → Prop} (x : Bool) (h1 : p x) (h2 : p (!x)) : ∀ y, p y := fun y => by
  cases x <;> cases y <;> assumption
/-- the two houses and the law's own of them; d: what is held, kn: how often each called; kc, ko, kh: the lists of them -/
structure Two (K : PySem.W.Frag) (C : Addr) (H : Hp) (M : List Addr) (d kn kc ko kh : Addr) (kz : Addr) (zs : List V) (h : Bool → HA) (oa : Bool → OA) (l : Bool → List VW) (st : Bool → HS) (n : Bool → Int) (hs : List V) (i : Nat) : Prop where
  b : ∀ x, Both C M H (h x) (oa x) (l x) (st x)
  ds : ∀ x, ∀ b ∈ (h x).S ++ (oa x).S, b ∉ (h (!x)).S ++ (oa (!x)).S
  dM : d ∈ M
  nM : kn ∈ M
  dn : d ≠ kn
  od : ∀ x, d ∉ (h x).S ++ (oa x).S
  on : ∀ x, kn ∉ (h x).S ++ (oa x).S
  gd : H d = some (.lst hs)
  gn : H kn = some (.lst [.int (n false), .int (n true)])
  gc : LH.Fr M H kc = some (.lst [.int (st false).c, .int (st true).c])
  go : LH.Fr M H ko = some (.lst [.ref (oa false).o, .ref (oa true).o])
  gh : LH.Fr M H kh = some (.lst [.ref (h false).p, .ref (h true).p])
  hh : ∀ x ∈ hs, Hd K (LH.Fr M H) x
  sz : ∀ x, (st x).size ≤ 5 * i
  rw : ∀ x, (st x).rows.length ≤ i
  gz : LH.Fr M H kz = some (.lst zs)
section
variable {C : Addr} {H H' : Hp} {M : List Addr} {d kn kc ko kh kz : Addr} {zs : List V} {h : Bool → HA} {oa : Bool → OA} {l : Bool → List VW} {st : Bool → HS} {n : Bool → Int} {hs : List V} {i : Nat}
theorem Two.alive (W : Two K C H M d kn kc ko kh kz zs h oa l st n hs i) : ∀ b ∈ M, ∃ o, H b = some o := (W.b true).s.al
theorem Two.inM (W : Two K C H M d kn kc ko kh kz zs h oa l st n hs i) (x : Bool) : ∀ b ∈ (h x).S ++ (oa x).S, b ∈ M := fun b hb => (List.mem_append.mp hb).elim ((W.b x).s.sub b) ((W.b x).m b)
theorem Two.same (W : Two K C H M d kn kc ko kh kz zs h oa l st n hs i) (e : Same H H') : Two K C H' M d kn kc ko kh kz zs h oa l st n hs i :=
  have f := LH.same_fr (M := M) e
  ⟨fun x => (W.b x).same e, W.ds, W.dM, W.nM, W.dn, W.od, W.on, e _ _ W.gd, e _ _ W.gn, f _ _ W.gc, f _ _ W.go, f _ _ W.gh, fun x hx => (W.hh x hx).up f, W.sz, W.rw, f _ _ W.gz⟩
/-- a place beside the houses changed -/
theorem Two.put {q : Addr} {hs' : List V} {n' : Bool → Int} (W : Two K C H M d kn kc ko kh kz zs h oa l st n hs i) (k : LH.Kp q H H') (qM : q ∈ M) (qo : ∀ x, q ∉ (h x).S ++ (oa x).S) (al : ∃ o, H' q = some o) (gd : H' d = some (.lst hs')) (gn : H' kn = some (.lst [.int (n' false), .int (n' true)])) (hh : ∀ x ∈ hs', Hd K (LH.Fr M H') x) :
    Two K C H' M d kn kc ko kh kz zs h oa l st n' hs' i :=
  have f := (k.ks (List.mem_singleton.mpr rfl)).frS (M := [q]) (N := M) (fun b hb => by rw [List.mem_singleton.mp hb]; exact qM)
  ⟨fun x => (W.b x).kp k qM (fun m => qo x (List.mem_append.mpr (.inl m))) (fun m => qo x (List.mem_append.mpr (.inr m))) al, W.ds, W.dM, W.nM, W.dn, W.od, W.on, gd, gn, f _ _ W.gc, f _ _ W.go, f _ _ W.gh, hh, W.sz, W.rw, f _ _ W.gz⟩
theorem Two.deed (W : Two K C H M d kn kc ko kh kz zs h oa l st n hs i) {x : Bool} {N : List Addr} {h' : HA} {l' : List VW} {st' : HS} (hp : h'.p = (h x).p) (new : ∀ b ∈ N, H b = none) (ks : LH.Ks ((h x).S ++ (oa x).S) H H') (sub : ∀ b ∈ h'.S, b ∈ (h x).S ∨ b ∈ N) (B' : Both C (N ++ M) H' h' (oa x) l' st')
    (fr : Same (LH.Fr M H) (LH.Fr (N ++ M) H')) (sz : st'.size ≤ (st x).size + 5) (c : st'.c = (st x).c) (rw : st'.rows.length ≤ (st x).rows.length + 1) :
    Two K C H' (N ++ M) d kn kc ko kh kz zs (set2 h x h') oa (set2 l x l') (set2 st x st') n hs (i + 1) := by
  have inN : ∀ b, b ∈ M → b ∈ N ++ M := fun b hb => List.mem_append.mpr (.inr hb)
  have nN : ∀ b, b ∈ M → b ∉ N := fun b hb m => by
    obtain ⟨o, q⟩ := W.alive b hb
    rw [new b m] at q
    cases q
  have first : ∀ b ∈ h'.S ++ (oa x).S, b ∉ (h (!x)).S ++ (oa (!x)).S := fun b hb m => by
    rcases List.mem_append.mp hb with hb | hb
    · rcases sub b hb with hb | hb
      · exact W.ds x b (List.mem_append.mpr (.inl hb)) m
      · exact nN b (W.inM (!x) b m) hb
    · exact W.ds x b (List.mem_append.mpr (.inr hb)) m
  have other : ∀ q, q ∈ M → q ∉ (h x).S ++ (oa x).S → q ∉ h'.S ++ (oa x).S := fun q qM qo m => by
    rcases List.mem_append.mp m with m | m
    · rcases sub q m with m | m
      · exact qo (List.mem_append.mpr (.inl m))
      · exact nN q qM m
    · exact qo (List.mem_append.mpr (.inr m))
  have cc : ∀ y, (set2 st x st' y).c = (st y).c := bool2 x (by rw [set2_same]; exact c) (by rw [set2_other])
  have pp : ∀ y, (set2 h x h' y).p = (h y).p := bool2 x (by rw [set2_same]; exact hp) (by rw [set2_other])
  refine ⟨bool2 x ?_ ?_, bool2 x ?_ ?_, inN _ W.dM, inN _ W.nM, W.dn, bool2 x ?_ ?_, bool2 x ?_ ?_, ks _ _ W.gd (W.od x), ks _ _ W.gn (W.on x), by rw [cc, cc]; exact fr _ _ W.gc, fr _ _ W.go, by rw [pp, pp]; exact fr _ _ W.gh, fun z hz => (W.hh z hz).up fr, bool2 x ?_ ?_, bool2 x ?_ ?_, fr _ _ W.gz⟩
  · rw [set2_same, set2_same, set2_same]; exact B'
  · rw [set2_other, set2_other, set2_other]
    exact (W.b (!x)).far ks (fun b hb m => W.ds x b m (List.mem_append.mpr (.inl hb))) (fun b hb m => W.ds x b m (List.mem_append.mpr (.inr hb))) fr B'.s.al
  · rw [set2_same, set2_other]; exact first
  · rw [Bool.not_not, set2_same, set2_other]
    exact fun b hb m => first b m hb
  · rw [set2_same]; exact other d W.dM (W.od x)
  · rw [set2_other]; exact W.od _
  · rw [set2_same]; exact other kn W.nM (W.on x)
  · rw [set2_other]; exact W.on _
  · rw [set2_same]; have := W.sz x; omega
  · rw [set2_other]; have := W.sz (!x); omega
  · rw [set2_same]; have := W.rw x; omega
  · rw [set2_other]; have := W.rw (!x); omega
/-- a place that is none of theirs is let go -/
theorem Two.drop {q : Addr} (W : Two K C H M d kn kc ko kh kz zs h oa l st n hs i) (qo : ∀ x, q ∉ (h x).S ++ (oa x).S) (qd : q ≠ d) (qn : q ≠ kn) : Two K C H (M.filter fun b => decide (b ≠ q)) d kn kc ko kh kz zs h oa l st n hs i := by
  have le : ∀ b, b ∈ (M.filter fun b => decide (b ≠ q)) → b ∈ M := fun b hb => (List.mem_filter.mp hb).1
  have ge : ∀ b, b ∈ M → b ≠ q → b ∈ (M.filter fun b => decide (b ≠ q)) := fun b hb n => List.mem_filter.mpr ⟨hb, decide_eq_true n⟩
  have f : Same (LH.Fr M H) (LH.Fr (M.filter fun b => decide (b ≠ q)) H) := fun b o hb => by
    obtain ⟨q1, q2⟩ := LH.fr_some hb
    exact LH.fr_of q1 fun m => q2 (le b m)
  refine ⟨fun x => ⟨⟨(W.b x).s.at_.to f fun _ _ _ e => e, fun b hb => ge b ((W.b x).s.sub b hb) fun e => qo x (List.mem_append.mpr (.inl (e ▸ hb))), fun b hb => W.alive b (le b hb), (W.b x).s.sm⟩, (W.b x).o.to f fun _ _ _ e => e, fun b hb => ge b ((W.b x).m b hb) fun e => qo x (List.mem_append.mpr (.inr (e ▸ hb))), (W.b x).d⟩, W.ds, ge _ W.dM (Ne.symm qd), ge _ W.nM (Ne.symm qn), W.dn, W.od, W.on, W.gd, W.gn, f _ _ W.gc, f _ _ W.go, f _ _ W.gh, fun x hx => (W.hh x hx).up f, W.sz, W.rw, f _ _ W.gz⟩
end
theorem hear_rows_len {st : HS} {w : Wrd} : (st.hear w).rows.length ≤ st.rows.length + 1 := by
  unfold HS.hear
  split
  · exact Nat.le_succ _
  · rw [name_same.2.2.2]
    unfold HS.write
    split
    · show (((st.learn w).mark w).rows ++ [(w.n, w.r)]).length ≤ _
      rw [mark_same.2.2.2, List.length_append]
      exact Nat.le_refl _
    · rw [mark_same.2.2.2]
      exact Nat.le_succ _
theorem HouseAt.noLst {C : Addr} {F H : Hp} {a : HA} {st : HS} (h : HouseAt C F H a st) {b : Addr} {xs : List V} (g : H b = some (.lst xs)) : b ∉ a.S := fun hb => by
  unfold HA.S at hb
  simp only [List.mem_cons] at hb
  rcases hb with rfl | rfl | rfl | rfl | rfl | rfl | rfl | rfl | hb
  · obtain ⟨dx, q⟩ := h.ob; rw [g] at q; cases q
  · obtain ⟨k, q, _⟩ := h.kn; rw [g] at q; cases q
  · obtain ⟨k, q, _⟩ := h.ea; rw [g] at q; cases q
  · obtain ⟨k, q, _⟩ := h.ma; rw [g] at q; cases q
  · have q := h.ms.dt; rw [g] at q; cases q
  · have q := h.ro; unfold PRo at q; rw [g] at q; cases q
  · obtain ⟨k, q, _⟩ := h.ba; rw [g] at q; cases q
  · obtain ⟨k, q, _⟩ := h.nm; rw [g] at q; cases q
  · obtain ⟨e, he, rfl⟩ := List.mem_map.mp hb
    obtain ⟨k, q, _⟩ := h.ms.inn e he
    rw [g] at q
    cases q
end
end K6
namespace K6
open PySem L2 LM HM
local macro_rules | `(tactic| walk_at "rd1") => `(tactic| first
  | with_reducible refine LH.x_seq ?_
  | with_reducible refine LH.x_asg ?_
  | with_reducible refine LH.x_cons ?_
  | with_reducible refine LH.x_var (by with_unfolding_all exact rfl) ?_
  | with_reducible refine LH.x_c ?_
  | with_reducible refine LH.x_op ?_
  | with_reducible refine LH.x_gname ?_
  | with_reducible refine LH.x_nil ?_
  | with_reducible refine LH.x_I0 ?_
  | ((with_reducible refine LH.x_I ?k1 ?_); (case k1 => first | exact (by decide) | exact ⟨by decide, by decide⟩ | exact ⟨by decide, by decide, by decide⟩ | exact .inl ⟨by decide, by decide⟩ | exact .inr ⟨by decide, by decide⟩ | exact .inr ⟨by omega, by omega⟩ | exact .inl ⟨by omega, by omega⟩ | exact (by omega)))
  | with_reducible refine LH.x_ifS ?_
  | with_reducible refine LH.x_test ?_
  | with_reducible refine LH.x_tB ?_
  | with_reducible refine LH.bx ?_
  | with_reducible refine LH.x_and ?_
  | with_reducible refine LH.x_or ?_
  | with_reducible refine LH.x_not ?_
  | with_reducible refine LH.x_ret ?_
  | with_reducible refine LH.x_call ?_
  | with_reducible refine LH.x_cb ?_
  | with_reducible refine LH.x_lst ?_
  | with_reducible refine LH.x_tup ?_
  | with_reducible refine LH.x_bm ?_
  | with_reducible refine LH.x_drop ?_
  | with_reducible refine LH.x_next ?_
  | with_reducible refine LH.x_cont ?_
  | with_reducible refine LH.x_un ?_
  | with_reducible refine LH.x_U ?_
  | with_reducible refine LH.x_eq (by with_unfolding_all exact rfl) ?_
  | with_reducible refine LH.x_ne (by with_unfolding_all exact rfl) ?_
  | with_reducible refine LH.x_andV ?_
  | with_reducible refine LH.x_orV ?_
  | with_reducible refine LH.x_notV ?_
  | with_reducible refine LH.band ?_
  | with_reducible refine LH.bor ?_
  | with_reducible refine LH.x_if ?_
  | with_reducible refine LH.x_chain ?_
  | with_reducible refine LH.chk ?_
  | with_reducible refine LH.x_callS ?_
  | with_reducible refine LH.x_callE ?_
  | with_reducible refine LH.x_callV ?_
  | with_reducible refine LH.x_lrg ?_
  | with_reducible refine LH.x_lcS ?_
  | with_reducible refine LH.x_lcR1 ?_
  | with_reducible refine LH.x_forR1 ?_
  | with_reducible refine LH.x_forR3 ?_
  | with_reducible refine LH.strv ?_
  | with_reducible refine LH.x_yes ?_
  | with_reducible refine LH.x_sl ?_
  | with_reducible refine LH.x_noPart ?_
  | with_reducible refine LH.x_part ?_
  | with_reducible refine LH.pav ?_
  | with_reducible refine LH.x_jnv ?_
  | with_reducible refine LH.x_join ?_
  | with_reducible refine LH.x_inS ?_
  | with_reducible refine LH.x_niS ?_
  | with_reducible refine LH.x_isB ?_
  | with_reducible refine LH.x_isnB ?_
  | with_reducible refine LH.x_gcons ?_
  | with_reducible refine LH.x_gnil ?_
  | with_reducible refine LH.x_intB ?_
  | with_reducible refine LH.x_orT ?_
  | with_reducible refine LH.x_isTy ?_
  | with_reducible refine LH.x_niTy ?_
  | with_reducible refine LH.x_split ?_
  | with_reducible refine LH.x_spv ?_
  | with_reducible refine LH.x_gsub ?_
  | with_reducible refine LH.x_fmt ?_
  | with_reducible refine LH.x_js0 ?_
  | with_reducible refine LH.x_js ?_
  | with_reducible refine LH.x_rg1 ?_
  | with_reducible refine LH.x_forL ?_
  | with_reducible refine LH.x_abs ?_
  | with_reducible refine LH.x_rg2 ?_
  | with_reducible refine LH.rg1v ?_
  | with_reducible refine LH.rg2v ?_
  | with_reducible refine LH.x_forR2 ?_
  | with_reducible refine LH.x_lenSetG ?_
  | with_reducible refine LH.x_lc ?_
  | with_reducible refine LH.x_fld ?_
  | with_reducible refine LH.x_sfld ?_
  | with_reducible refine LH.x_afld ?_
  | with_reducible refine LH.x_meth ?_
  | with_reducible refine LH.x_make ?_
  | with_reducible refine LH.x_methSl ?_
  | with_reducible refine LH.x_makeSl ?_
  | with_reducible refine LH.x_din ?_
  | with_reducible refine LH.x_dni ?_
  | with_reducible refine LH.x_dget ?_
  | with_reducible refine LH.x_dput ?_
  | with_reducible refine LH.x_dget2 ?_
  | with_reducible refine LH.x_dpop1 ?_
  | with_reducible refine LH.x_litems ?_
  | with_reducible refine LH.x_tru ?_
  | with_reducible refine LH.x_revL ?_
  | with_reducible refine LH.x_dsetT ?_
  | with_reducible refine LH.x_lvals ?_
  | with_reducible refine LH.br_nt ?_
  | with_reducible refine LH.br_nf ?_
  | with_reducible refine LH.br_t ?_
  | with_reducible refine LH.br_f ?_)
local macro_rules | `(tactic| walk_at "rd") => `(tactic| repeat (walk_at "rd1"))
local macro_rules | `(tactic| walk_at "rs1") => `(tactic| first
  | with_reducible refine LH.x_seq ?_
  | with_reducible refine LH.x_cons ?_
  | with_reducible refine LH.x_var (by with_unfolding_all exact rfl) ?_
  | with_reducible refine LH.x_c ?_
  | with_reducible refine LH.x_op ?_
  | with_reducible refine LH.x_gname ?_
  | with_reducible refine LH.x_nil ?_
  | with_reducible refine LH.x_I0 ?_
  | ((with_reducible refine LH.x_I ?k1 ?_); (case k1 => first | exact (by decide) | exact ⟨by decide, by decide⟩ | exact ⟨by decide, by decide, by decide⟩ | exact .inl ⟨by decide, by decide⟩ | exact .inr ⟨by decide, by decide⟩ | exact .inr ⟨by omega, by omega⟩ | exact .inl ⟨by omega, by omega⟩ | exact (by omega)))
  | with_reducible refine LH.x_test ?_
  | with_reducible refine LH.x_tB ?_
  | with_reducible refine LH.bx ?_
  | with_reducible refine LH.x_and ?_
  | with_reducible refine LH.x_or ?_
  | with_reducible refine LH.x_not ?_
  | with_reducible refine LH.x_call ?_
  | with_reducible refine LH.x_cb ?_
  | with_reducible refine LH.x_lst ?_
  | with_reducible refine LH.x_tup ?_
  | with_reducible refine LH.x_bm ?_
  | with_reducible refine LH.x_next ?_
  | with_reducible refine LH.x_cont ?_
  | with_reducible refine LH.x_un ?_
  | with_reducible refine LH.x_U ?_
  | with_reducible refine LH.x_eq (by with_unfolding_all exact rfl) ?_
  | with_reducible refine LH.x_ne (by with_unfolding_all exact rfl) ?_
  | with_reducible refine LH.x_andV ?_
  | with_reducible refine LH.x_orV ?_
  | with_reducible refine LH.x_notV ?_
  | with_reducible refine LH.band ?_
  | with_reducible refine LH.bor ?_
  | with_reducible refine LH.x_if ?_
  | with_reducible refine LH.x_chain ?_
  | with_reducible refine LH.chk ?_
  | with_reducible refine LH.x_callS ?_
  | with_reducible refine LH.x_callE ?_
  | with_reducible refine LH.x_callV ?_
  | with_reducible refine LH.x_lrg ?_
  | with_reducible refine LH.x_lcS ?_
  | with_reducible refine LH.x_lcR1 ?_
  | with_reducible refine LH.strv ?_
  | with_reducible refine LH.x_yes ?_
  | with_reducible refine LH.x_sl ?_
  | with_reducible refine LH.x_noPart ?_
  | with_reducible refine LH.x_part ?_
  | with_reducible refine LH.pav ?_
  | with_reducible refine LH.x_jnv ?_
  | with_reducible refine LH.x_join ?_
  | with_reducible refine LH.x_inS ?_
  | with_reducible refine LH.x_niS ?_
  | with_reducible refine LH.x_isB ?_
  | with_reducible refine LH.x_isnB ?_
  | with_reducible refine LH.x_gcons ?_
  | with_reducible refine LH.x_gnil ?_
  | with_reducible refine LH.x_intB ?_
  | with_reducible refine LH.x_orT ?_
  | with_reducible refine LH.x_isTy ?_
  | with_reducible refine LH.x_niTy ?_
  | with_reducible refine LH.x_split ?_
  | with_reducible refine LH.x_spv ?_
  | with_reducible refine LH.x_gsub ?_
  | with_reducible refine LH.x_fmt ?_
  | with_reducible refine LH.x_js0 ?_
  | with_reducible refine LH.x_js ?_
  | with_reducible refine LH.x_rg1 ?_
  | with_reducible refine LH.x_abs ?_
  | with_reducible refine LH.x_rg2 ?_
  | with_reducible refine LH.rg1v ?_
  | with_reducible refine LH.rg2v ?_
  | with_reducible refine LH.x_lenSetG ?_
  | with_reducible refine LH.x_lc ?_
  | with_reducible refine LH.x_fld ?_
  | with_reducible refine LH.x_sfld ?_
  | with_reducible refine LH.x_afld ?_
  | with_reducible refine LH.x_meth ?_
  | with_reducible refine LH.x_make ?_
  | with_reducible refine LH.x_methSl ?_
  | with_reducible refine LH.x_makeSl ?_
  | with_reducible refine LH.x_din ?_
  | with_reducible refine LH.x_dni ?_
  | with_reducible refine LH.x_dget ?_
  | with_reducible refine LH.x_dput ?_
  | with_reducible refine LH.x_dget2 ?_
  | with_reducible refine LH.x_dpop1 ?_
  | with_reducible refine LH.x_litems ?_
  | with_reducible refine LH.x_tru ?_
  | with_reducible refine LH.x_revL ?_
  | with_reducible refine LH.x_dsetT ?_
  | with_reducible refine LH.x_lvals ?_
  | with_reducible refine LH.br_nt ?_
  | with_reducible refine LH.br_nf ?_
  | with_reducible refine LH.br_t ?_
  | with_reducible refine LH.br_f ?_)
local macro_rules | `(tactic| walk_at "rs") => `(tactic| repeat (walk_at "rs1"))

section
variable {P : Program} {w : World} {K : PySem.W.Frag} {mg : Str → Option Value} {base : Heap} {a : Ad}
theorem at_n {α : Type} {l : List α} (n : Int) (h : (l.length : Int) = n) (hn : 0 < n) (i : Int) : ∃ x ∈ l, atI l (i % n) = some x := by
  have h1 : (0 : Int) ≤ i % n := Int.emod_nonneg i (by omega)
  have h2 : i % n < n := Int.emod_lt_of_pos i hn
  obtain ⟨j, e⟩ := Int.eq_ofNat_of_zero_le h1
  rw [e] at h2 ⊢
  have hj : j < l.length := by omega
  exact ⟨l[j], List.getElem_mem hj, atI_nat (List.getElem?_eq_getElem hj)⟩
theorem cut_int {ns : List Int} {lo hi : Option Int} {x : V} (h : x ∈ cutV (ns.map V.int) lo hi) : ∃ i, x = .int i := by
  unfold cutV at h
  obtain ⟨i, _, e⟩ := List.mem_map.mp (List.mem_of_mem_drop (List.mem_of_mem_take h))
  exact ⟨i, e.symm⟩
theorem cut_len {xs : List V} {lo hi : Option Int} : (cutV xs lo hi).length ≤ xs.length := by
  unfold cutV
  rw [List.length_take, List.length_drop]
  omega
def pick {α : Type} (x y : α) : Bool → α := fun b => if b then y else x
def spLaw (K : PySem.W.Frag) : Sp := fun vs H Q _ => ∃ (q : Addr) (ns : List Int), vs = [.ref q] ∧ SqL K H q (ns.map V.int) ∧ ns.length ≤ 63 ∧ ∀ H', Q (.bl true) H'
theorem ok_law (T : Txt K mg a) : FnOk P w K mg base CX0 9 a.law a.d_law ["_law_script"] (spLaw K) := by
  have G__law_at := ok__law_at (P := P) (w := w) (base := base) T
  have G__law_own := ok__law_own (P := P) (w := w) (base := base) T
  have G__law_deed := ok__law_deed (P := P) (w := w) (base := base) T
  have G__law_words := ok__law_words (P := P) (w := w) (base := base) T
  have G__law_turned := ok__law_turned (P := P) (w := w) (base := base) T
  have G__law_state := ok__law_state (P := P) (w := w) (base := base) T
  have G__law_great := ok__law_great (P := P) (w := w) (base := base) T
  have G_House___init__ := ok_House___init__ (P := P) (w := w) (base := base) T
  have G_House_ledger := ok_House_ledger (P := P) (w := w) (base := base) T
  have G_House_caught := ok_House_caught (P := P) (w := w) (base := base) T
  refine T.F_law.ok sc_law (fun vs H Q E h => ?_) (fun cdv A outer s H vs Q E hr h => ?_)
  · obtain ⟨q, ns, rfl, _⟩ := h
    rfl
  · obtain ⟨q, ns, rfl, hq, hn, k⟩ := h
    have HR_House_ledger : Room 1 _ := hr.mono (by decide)
    have HR_House_caught : Room 1 _ := hr.mono (by decide)
    have HR__law_at : Room 1 _ := hr.mono (by decide)
    have HR__law_words : Room 2 _ := hr.mono (by decide)
    have HR__law_own : Room 2 _ := hr.mono (by decide)
    have HR__law_turned : Room 2 _ := hr.mono (by decide)
    have HR__law_state : Room 3 _ := hr.mono (by decide)
    have HR__law_deed : Room 8 _ := hr.mono (by decide)
    have HR__law_great : Room 7 _ := hr.mono (by decide)
    have HRM_House : Room 4 _ := hr.mono (by decide)
    refine ⟨_, (pss_cons (ps_set (i := 1) sc_law.nd rfl (Or.inl rfl) (pe_call G__law_at HR__law_at rfl T.g__law_at T.F__law_at.kp T.b__law_at .nil pass0 (pa_cons (pv 0) (pa_cons pe_int pa_nil))))
  (pss_cons (ps_set (i := 2) sc_law.nd rfl (Or.inl rfl) (pe_op op_mod (pe_call G__law_at HR__law_at rfl T.g__law_at T.F__law_at.kp T.b__law_at .nil pass0 (pa_cons (pv 0) (pa_cons pe_int pa_nil))) pe_int))
  (pss_cons (ps_set (i := 3) sc_law.nd rfl (Or.inl rfl) (pe_lst (pa_cons (pe_ix (r := rIxL K) ix_list (pe_lst (pa_cons pe_int (pa_cons pe_int (pa_cons pe_int (pa_cons (pe_op op_add pe_int (pe_op op_mod (pe_op op_fdiv (pv 1) pe_int) pe_int)) pa_nil))))) (pe_op op_mod (pv 1) pe_int) (fun _ _ => rfl)) (pa_cons pe_int pa_nil))))
  (pss_cons (ps_set (i := 4) sc_law.nd rfl (Or.inl rfl) (pe_lst (pa_cons (pe_call G__law_own HR__law_own rfl T.g__law_own T.F__law_own.kp T.b__law_own .nil pass0 (pa_cons (pe_ix (r := rIxL K) ix_list (pv 3) pe_int (fun _ _ => rfl)) (pa_cons (pe_op op_modN (pe_op op_fdiv (pv 1) pe_int) (pe_ix (r := rIxL K) ix_list (pv 3) pe_int (fun _ _ => rfl))) pa_nil))) (pa_cons (pe_call G__law_own HR__law_own rfl T.g__law_own T.F__law_own.kp T.b__law_own .nil pass0 (pa_cons pe_int (pa_cons pe_int pa_nil))) pa_nil))))
  (pss_cons (ps_setLc (i := 5) (own := [("_law_own_here", 6)]) (g := gName 6) (tt := tYes) rfl sc_law.nd rfl rfl rfl (pi_list (pv 4)) (blkOk_by (N := N_law) (sc := defScope s_law) (by decide +kernel)) (fun _ _ _ _ _ => pg_name (i := 6) sc_law.nd rfl (Or.inl rfl)) (fun _ _ _ _ _ => pts_nil) (fun _ _ _ _ _ => (pe_make T.mk_House G_House___init__ HRM_House rfl T.g_House T.b_House___init__ .nil LH.passN (pa_cons (pe_dget (hu_of hr) (pv 6) pe_str (fun _ _ => rfl)) (pa_cons (pe_dget (hu_of hr) (pv 6) pe_str (fun _ _ => rfl)) pa_nil)))))
  (pss_cons (ps_set (i := 7) sc_law.nd rfl (Or.inl rfl) (pe_lst (pa_cons pe_int (pa_cons pe_int pa_nil))))
  (pss_cons (ps_set (i := 8) sc_law.nd rfl (Or.inl rfl) (pe_lst pa_nil))
  (pss_cons (ps_for PassesOwn.never rfl (pi_list (pe_slice sl_list (pv 0) (po_some pe_int) (po_some pe_int))) (pg_name (i := 9) sc_law.nd rfl (Or.inl rfl))
    (pss_cons (ps_set (i := 10) sc_law.nd rfl (Or.inl rfl) (pe_callTy LH.call_intB rfl T.n_int (by decide +kernel) (pa_cons (pe_cmpR op_eq (pe_op op_mod (pe_op op_fdiv (pv 9) pe_int) pe_int) pe_int (nomark _)) pa_nil)))
    (pss_cons (ps_asg (pe_call G__law_deed HR__law_deed rfl T.g__law_deed T.F__law_deed.kp T.b__law_deed .nil pass0 (pa_cons (pe_ix (r := rIxL K) ix_list (pv 5) (pv 10) (fun _ _ => rfl)) (pa_cons (pe_ix (r := rIxL K) ix_list (pv 4) (pv 10) (fun _ _ => rfl)) (pa_cons (pe_callB LH.call_absI rfl T.n_abs (by decide +kernel) (pa_cons (pv 9) pa_nil)) (pa_cons (pv 2) (pa_cons (pe_ix (r := rIxL K) ix_list (pv 7) (pv 10) (fun _ _ => rfl)) pa_nil)))))) (pg_tup rfl (pgs_cons (pg_name (i := 11) sc_law.nd rfl (Or.inl rfl)) (pgs_cons (pg_name (i := 12) sc_law.nd rfl (Or.inl rfl)) pgs_nil))))
    (pss_cons (ps_asg (pe_op op_add (pe_ix (r := rIxL K) ix_list (pv 7) (pv 10) (fun _ _ => rfl)) (pe_callTy LH.call_intB rfl T.n_int (by decide +kernel) (pa_cons (pe_or (pe_cmpR op_eq (pe_op op_mod (pe_callB LH.call_absI rfl T.n_abs (by decide +kernel) (pa_cons (pv 9) pa_nil)) pe_int) pe_int (nomark _)) (pe_one (pe_cmpR op_eq (pe_ix (r := rIxL K) ix_list (pv 3) (pv 10) (fun _ _ => rfl)) pe_int (nomark _)))) pa_nil))) (pg_sub (pv 7) (pv 10) set_list))
    (pss_cons (ps_if (PW.pt (pw_or (pt_not (pt_val (pe_call G__law_words HR__law_words rfl T.g__law_words T.F__law_words.kp T.b__law_words .nil pass0 (pa_cons (pv 11) pa_nil)))) (pw_or1 (pt_cmpR (r := rNeD K) (op_neD hr.units) (pv 11) (pv 12) (nomark _)))))
      (pss_one (ps_ret pe_bl))
      pss_nil)
    (pss_cons (ps_if (pt_cmpR op_eq (pe_op op_mod (pv 9) pe_int) pe_int (nomark _))
      (pss_cons (ps_expr (pe_bm0 PySem.F.plainAttrs_list PySem.F.slot_list_clear PySem.F.type_list_clear mt_clear (pv 11)))
      (pss_cons (ps_expr (pe_bm0 PySem.F.plainAttrs_list PySem.F.slot_list_clear PySem.F.type_list_clear mt_clear (pe_meth0 (pe_ix (r := rIxL K) ix_list (pv 5) (pv 10) (fun _ _ => rfl)) T.cl_House T.me_House_caught G_House_caught HR_House_caught T.b_House_caught .nil pass0)))
      (pss_one (ps_expr (LH.pe_dclearN (pe_meth0 (pe_ix (r := rIxL K) ix_list (pv 5) (pv 10) (fun _ _ => rfl)) T.cl_House T.me_House_ledger G_House_ledger HR_House_ledger T.b_House_ledger .nil pass0))))))
      pss_nil)
    (pss_cons (ps_expr (pe_bm PySem.F.plainAttrs_list PySem.F.slot_list_append PySem.F.type_list_append mt_append (pv 8) (pa_cons (pe_tup (pa_cons (pv 11) (pa_cons (pe_callTy (r := LH.rListOf K) LH.call_listOf rfl T.n_list (by decide +kernel) (pa_cons (pv 11) pa_nil)) pa_nil))) pa_nil)))
    (pss_one (ps_for PassesOwn.never rfl (pi_range1 rfl T.n_range (pa_cons pe_int pa_nil)) (pg_name (i := 13) sc_law.nd rfl (Or.inl rfl))
      (pss_cons (ps_if (PW.pt (pw_and (pt_cmpR op_eq (pe_op op_mod (pe_op op_fdiv (pv 9) pe_int) pe_int) pe_int (nomark _)) (pw_and1 (pt_not (pt_val (pe_call G__law_turned HR__law_turned rfl T.g__law_turned T.F__law_turned.kp T.b__law_turned .nil pass0 (pa_cons (pe_ix (r := rIxL K) ix_list (pv 5) (pv 13) (fun _ _ => rfl)) (pa_cons (pe_ix (r := rIxL K) ix_list (pv 4) (pv 13) (fun _ _ => rfl)) pa_nil))))))))
        (pss_one (ps_ret pe_bl))
        pss_nil)
      (pss_one (ps_if (pt_not (pt_val (pe_call G__law_state HR__law_state rfl T.g__law_state T.F__law_state.kp T.b__law_state .nil pass0 (pa_cons (pe_ix (r := rIxL K) ix_list (pv 5) (pv 13) (fun _ _ => rfl)) (pa_cons (pe_ix (r := rIxL K) ix_list (pv 4) (pv 13) (fun _ _ => rfl)) (pa_cons (pv 8) pa_nil))))))
        (pss_one (ps_ret pe_bl))
        pss_nil))))))))))))
  (pss_cons (ps_if (pt_not (pt_val (pe_call G__law_great HR__law_great rfl T.g__law_great T.F__law_great.kp T.b__law_great .nil pass0 (pa_cons (pe_op op_add pe_int (pe_op op_mod (pv 1) pe_int)) (pa_cons (pe_op op_mod (pe_op op_fdiv (pv 1) pe_int) pe_int) pa_nil)))))
    (pss_one (ps_ret pe_bl))
    pss_nil)
  (pss_one (ps_ret (pe_cmpR (r := rEqD K) (op_eqD hr.units) (pe_lc (own := [("_law_pair", 14)]) (g := gName 14) rfl sc_law.nd (pi_list (pv 8)) (blkOk_by (N := N_law) (sc := defScope s_law) (by decide +kernel)) (fun _ _ _ _ _ => pg_name (i := 14) sc_law.nd rfl (Or.inl rfl)) (fun _ _ _ _ _ => (pts_one (pt_cmpR (r := LH.rNeX K) (LH.op_neX hr.units) (pe_ix (r := rIxT K) ix_tup (pv 14) pe_int (fun _ _ => rfl)) (pe_ix (r := rIxT K) ix_tup (pv 14) pe_int (fun _ _ => rfl)) (nomark _)))) (fun _ _ _ _ _ => (pv 14))) (pe_lst pa_nil) (nomark _))))))))))))), ?_⟩
    walk_at "rd"
    refine ⟨q, ns, _, rfl, hq, by omega, fun z0 => ?_⟩
    walk_at "rd"
    refine ⟨q, ns, _, rfl, hq, by omega, fun z1 => ?_⟩
    walk_at "rd"
    generalize z1 % 100003 = bs
    refine LH.newl (LH.small rfl) fun p1 H1 f1 e1 g1 => ?_
    walk_at "rd"
    obtain ⟨v, hv, ev⟩ := at_n (l := [V.int 4, .int 5, .int 7, .int (1 + z0 / 4 % 12)]) 4 rfl (by decide) z0
    refine LH.x_ixL (v := v) (SqL.of g1) ev ?_
    obtain ⟨c, rfl, c1, c2⟩ : ∃ c : Int, v = .int c ∧ 1 ≤ c ∧ c ≤ 12 := by
      simp only [List.mem_cons, List.not_mem_nil, or_false] at hv
      rcases hv with rfl | rfl | rfl | rfl
      · exact ⟨_, rfl, by decide, by decide⟩
      · exact ⟨_, rfl, by decide, by decide⟩
      · exact ⟨_, rfl, by decide, by decide⟩
      · exact ⟨_, rfl, by omega, by omega⟩
    walk_at "rd"
    refine LH.newl (LH.small rfl) fun kc H2 f2 e2 g2 => ?_
    walk_at "rd"
    refine LH.x_ixL (v := .int c) (SqL.of g2) rfl ?_
    walk_at "rd"
    refine LH.x_ixL (v := .int c) (SqL.of g2) rfl ?_
    walk_at "rd"
    obtain ⟨o, ho, o1, o2⟩ : ∃ o, (z0 / 48).fmod c = o ∧ 0 ≤ o ∧ o < c := ⟨_, rfl, Int.fmod_nonneg_of_pos _ (by omega), Int.fmod_lt_of_pos _ (by omega)⟩
    rw [ho]
    refine ⟨c, o, rfl, c1, c2, o1, o2, fun oa0 H3 new0 e3 at0 => ?_⟩
    walk_at "rd"
    refine ⟨4, 1, rfl, by decide, by decide, by decide, by decide, fun oa1 H4 new1 e4 at1 => ?_⟩
    walk_at "rd"
    refine LH.newl (LH.small rfl) fun ko H5 f5 e5 g5 => ?_
    walk_at "rd"
    let oaf : Bool → OA := pick oa0 oa1
    let cf : Bool → Int := pick c 4
    let of_ : Bool → Int := pick o 1
    have cb : ∀ y, 1 ≤ cf y ∧ cf y ≤ 12 ∧ 0 ≤ of_ y ∧ of_ y < cf y := fun y => by
      cases y
      · exact ⟨c1, c2, o1, o2⟩
      · exact ⟨by show (1 : Int) ≤ 4; decide, by show (4 : Int) ≤ 12; decide, by show (0 : Int) ≤ 1; decide, by show (1 : Int) < 4; decide⟩
    have own5 : ∀ y F, OwnAt F H5 (oaf y) [] (HS.new (cf y) (of_ y)) := fun y F => by
      cases y
      · exact (at0 F).to (Same.refl _) fun b o _ q => e5 _ _ (e4 _ _ q)
      · exact (at1 F).to (Same.refl _) fun b o _ q => e5 _ _ q
    refine LH.lc_LI (SqL.of g5) (by simp) (fun i ys F => (i = 0 ∧ ys = []) ∨ (i = 1 ∧ ∃ h0 : HA, ys = [.ref h0.p] ∧ (∀ b ∈ h0.S, H5 b = none) ∧ ∀ G, HouseAt a.House G F h0 (HS.new c o)) ∨ (i = 2 ∧ ∃ h0 h1 : HA, ys = [.ref h0.p, .ref h1.p] ∧ (∀ b ∈ h0.S, H5 b = none) ∧ (∀ b ∈ h1.S, H5 b = none) ∧ (∀ b ∈ h0.S, b ∉ h1.S) ∧ (∀ G, HouseAt a.House G F h0 (HS.new c o)) ∧ ∀ G, HouseAt a.House G F h1 (HS.new 4 1))) (fun _ => rfl) (fun D hD => .inl ⟨rfl, rfl⟩) (fun i x hx H' Q q => ?_) ?_ fun kh H6 ys f6 e6 g6 p6 => ?_
    · walk_at "rd"
      exact q
    · intro i x ys D Ha hi e5a gD pa Q q
      obtain ⟨y, hy, rfl⟩ : ∃ y : Bool, i = (if y then 1 else 0) ∧ x = .ref (oaf y).o := by
        match i, hi with
        | 0, hi => injection hi with hi; exact ⟨false, rfl, hi.symm⟩
        | 1, hi => injection hi with hi; exact ⟨true, rfl, hi.symm⟩
      have e5a' := e5a.trans LH.fr_le
      have ob := e5a' _ _ (own5 y fun _ => none).ob
      obtain ⟨cy1, cy2, oy1, oy2⟩ := cb y
      walk_at "rd"
      refine LH.getv (LH.getS ob) rfl ?_
      walk_at "rd"
      refine LH.getv (LH.getS ob) rfl ?_
      walk_at "rd"
      refine LH.makev fun p dx Hb fb fb' nb eb gb => ?_
      refine ⟨p, dx, .int (cf y), .int (of_ y), _, _, rfl, gb, .int _, .int _, fun b => (by rw [isW_yes cy1 cy2] at b; cases b), fun i ei _ b => (by injection ei with ei; subst ei; rw [isW_yes oy1 (by omega)] at b; cases b), fun i j ei ej _ _ _ _ h Hc hp new ks at_ => ⟨rfl, ?_⟩⟩
      injection ei with ei
      injection ej with ej
      subst ei ej hp
      have newA : ∀ b ∈ h.S, Ha b = none := fun b hb => by
        by_cases bp : b = h.p
        · rw [bp]; exact fb
        · exact LH.Same.none eb (new b hb bp)
      have eac : Same Ha Hc := fun b v q => ks _ _ (eb _ _ q) (fun m => by
        have e : b = h.p := by simpa using m
        rw [e, fb] at q
        cases q)
      have DS : D ∉ h.S := fun m => by rw [newA D m] at gD; cases gD
      have new5 : ∀ b ∈ h.S, H5 b = none := fun b hb => LH.Same.none e5a' (newA b hb)
      have atc : ∀ G, HouseAt a.House G (LH.Fr [D] Hc) h (HS.new (cf y) (of_ y)) := fun G => (at_ G).to (Same.refl _) fun b o hb q => LH.fr_of q fun m => DS (by rw [← List.mem_singleton.mp m]; exact hb)
      refine q _ Hc eac ?_
      cases y with
      | false =>
        rcases pa with ⟨_, rfl⟩ | ⟨h1, _⟩ | ⟨h1, _⟩
        · exact .inr (.inl ⟨by rw [hy]; rfl, h, rfl, new5, atc⟩)
        · rw [hy] at h1; cases h1
        · rw [hy] at h1; cases h1
      | true =>
        rcases pa with ⟨h1, _⟩ | ⟨h1, h0, rfl, n0, at0⟩ | ⟨h1, _⟩
        · rw [hy] at h1; cases h1
        · refine .inr (.inr ⟨by rw [hy]; rfl, h0, h, rfl, n0, new5, fun b hb m => ?_, fun G => (at0 G).to (Same.refl _) fun b o _ q => LH.same_fr eac _ _ q, atc⟩)
          obtain ⟨v, q⟩ := (at0 fun _ => none).alive b hb
          have := (LH.fr_some q).1
          rw [newA b m] at this
          cases this
        · rw [hy] at h1; cases h1
    rcases p6 with ⟨h1, _⟩ | ⟨h1, _⟩ | ⟨_, h0, h1, rfl, n0, n1, d01, ha0, ha1⟩
    · cases h1
    · cases h1
    walk_at "rd"
    refine LH.newl (LH.small rfl) fun kn H7 f7 e7 g7 => ?_
    walk_at "rd"
    refine LH.newl (LH.small rfl) fun d H8 f8 e8 g8 => ?_
    walk_at "rd"
    refine LH.x_slL (Same.seq (e1.trans (e2.trans (e3.trans (e4.trans (e5.trans (e6.trans (e7.trans e8))))))) hq) fun kz H9 f9 e9 g9 => ?_
    let hf : Bool → HA := pick h0 h1
    let stf : Bool → HS := fun y => HS.new (cf y) (of_ y)
    have e69 : Same H6 H9 := e7.trans (e8.trans e9)
    have e59 := e6.trans e69
    have hX6 : ∀ y G, HouseAt a.House G (LH.Fr [kh] H6) (hf y) (stf y) := fun y G => by
      cases y
      · exact ha0 G
      · exact ha1 G
    have hX : ∀ y G, HouseAt a.House G H9 (hf y) (stf y) := fun y G => (hX6 y G).to (Same.refl _) fun b o _ q => e69 _ _ (LH.fr_le _ _ q)
    have oX : ∀ y F, OwnAt F H9 (oaf y) [] (stf y) := fun y F => (own5 y F).to (Same.refl _) fun b o _ q => e59 _ _ q
    have nh : ∀ y, ∀ b ∈ (hf y).S, H5 b = none := fun y => by
      cases y
      · exact n0
      · exact n1
    have ao : ∀ y, ∀ b ∈ (oaf y).S, ∃ v, H5 b = some v := fun y => (own5 y fun _ => none).alive
    have hoD : ∀ x y, ∀ b ∈ (hf x).S, b ∉ (oaf y).S := fun x y b hb m => by
      obtain ⟨v, q⟩ := ao y b m
      rw [nh x b hb] at q
      cases q
    have ooD : ∀ b ∈ oa0.S, b ∉ oa1.S := fun b hb m => by
      obtain ⟨v, q⟩ := (at0 fun _ => none).alive b hb
      rw [new1 b m] at q
      cases q
    have a6 : ∀ y, ∀ b ∈ (hf y).S ++ (oaf y).S, ∃ v, H6 b = some v := fun y b hb => by
      rcases List.mem_append.mp hb with hb | hb
      · obtain ⟨v, q⟩ := (hX6 y fun _ => none).alive b hb
        exact ⟨v, LH.fr_le _ _ q⟩
      · obtain ⟨v, q⟩ := ao y b hb
        exact ⟨v, e6 _ _ q⟩
    have inM : ∀ y, ∀ b ∈ (hf y).S ++ (oaf y).S, b ∈ d :: kn :: ((h0.S ++ oa0.S) ++ (h1.S ++ oa1.S)) := fun y b hb => by
      refine List.mem_cons.mpr (.inr (List.mem_cons.mpr (.inr (List.mem_append.mpr ?_))))
      cases y
      · exact .inl hb
      · exact .inr hb
    have exM : ∀ b, b ∈ d :: kn :: ((h0.S ++ oa0.S) ++ (h1.S ++ oa1.S)) → b = d ∨ b = kn ∨ ∃ y, b ∈ (hf y).S ++ (oaf y).S := fun b hb => by
      rcases List.mem_cons.mp hb with e | hb
      · exact .inl e
      rcases List.mem_cons.mp hb with e | hb
      · exact .inr (.inl e)
      rcases List.mem_append.mp hb with hb | hb
      · exact .inr (.inr ⟨false, hb⟩)
      · exact .inr (.inr ⟨true, hb⟩)
    have al8 : ∀ b ∈ d :: kn :: ((h0.S ++ oa0.S) ++ (h1.S ++ oa1.S)), ∃ v, H8 b = some v := fun b hb => by
      rcases exM b hb with rfl | rfl | ⟨y, hb⟩
      · exact ⟨_, g8⟩
      · exact ⟨_, e8 _ _ g7⟩
      · obtain ⟨v, q⟩ := a6 y b hb
        exact ⟨v, e8 _ _ (e7 _ _ q)⟩
    have dS : ∀ y, d ∉ (hf y).S ++ (oaf y).S := fun y m => by
      obtain ⟨v, q⟩ := a6 y d m
      rw [LH.Same.none e7 f8] at q
      cases q
    have nS : ∀ y, kn ∉ (hf y).S ++ (oaf y).S := fun y m => by
      obtain ⟨v, q⟩ := a6 y kn m
      rw [f7] at q
      cases q
    have dkn : d ≠ kn := fun e => by rw [e, g7] at f8; cases f8
    have out : ∀ b v, H6 b = some v → (∀ y, b ∉ (hf y).S ++ (oaf y).S) → b ∉ d :: kn :: ((h0.S ++ oa0.S) ++ (h1.S ++ oa1.S)) := fun b v q n m => by
      rcases exM b m with rfl | rfl | ⟨y, hb⟩
      · rw [LH.Same.none e7 f8] at q; cases q
      · rw [f7] at q; cases q
      · exact n y hb
    have kcM := out kc _ (e6 _ _ (e5 _ _ (e4 _ _ (e3 _ _ g2)))) fun y m => by
      rcases List.mem_append.mp m with m | m
      · have := nh y kc m
        rw [e5 _ _ (e4 _ _ (e3 _ _ g2))] at this
        cases this
      · cases y
        · have := new0 kc m; rw [g2] at this; cases this
        · have := new1 kc m; rw [e3 _ _ g2] at this; cases this
    have koM := out ko _ (e6 _ _ g5) fun y m => by
      rcases List.mem_append.mp m with m | m
      · have := nh y ko m
        rw [g5] at this
        cases this
      · cases y
        · obtain ⟨v, q⟩ := (at0 fun _ => none).alive ko m
          rw [LH.Same.none e4 f5] at q
          cases q
        · obtain ⟨v, q⟩ := (at1 fun _ => none).alive ko m
          rw [f5] at q
          cases q
    have khM := out kh _ g6 fun y m => by
      rcases List.mem_append.mp m with m | m
      · obtain ⟨v, q⟩ := (hX6 y fun _ => none).alive kh m
        rw [LH.fr_in (List.mem_singleton.mpr rfl)] at q
        cases q
      · obtain ⟨v, q⟩ := ao y kh m
        rw [f6] at q
        cases q
    have ds0 : ∀ b ∈ (hf false).S ++ (oaf false).S, b ∉ (hf true).S ++ (oaf true).S := fun b hb m => by
      rcases List.mem_append.mp hb with hb | hb
      · rcases List.mem_append.mp m with m | m
        · exact d01 b hb m
        · exact hoD false true b hb m
      · rcases List.mem_append.mp m with m | m
        · exact hoD true false b m hb
        · exact ooD b hb m
    have W9 : Two K a.House H9 (d :: kn :: ((h0.S ++ oa0.S) ++ (h1.S ++ oa1.S))) d kn kc ko kh kz (cutV (ns.map V.int) (some 2) (some 62)) hf oaf (fun _ => []) stf (fun _ => 0) [] 0 :=
      ⟨fun y => ⟨⟨hX y _, fun b hb => inM y b (List.mem_append.mpr (.inl hb)), fun b hb => let ⟨v, q⟩ := al8 b hb; ⟨v, e9 _ _ q⟩, Nat.zero_le _⟩, oX y _, fun b hb => inM y b (List.mem_append.mpr (.inr hb)), fun b hb m => hoD y y b m hb⟩,
        bool2 false ds0 fun b hb m => ds0 b m hb, List.mem_cons_self .., List.mem_cons.mpr (.inr (List.mem_cons_self ..)), dkn, dS, nS, e9 _ _ g8, e9 _ _ (e8 _ _ g7), LH.fr_of (e69 _ _ (e6 _ _ (e5 _ _ (e4 _ _ (e3 _ _ g2))))) kcM, LH.fr_of (e59 _ _ g5) koM, LH.fr_of (e69 _ _ g6) khM, (fun x hx => nomatch hx), (fun _ => Nat.zero_le _), fun _ => Nat.zero_le _, LH.fr_of g9 (LH.not_in f9 al8)⟩
    have clen : (cutV (ns.map V.int) (some 2) (some 62)).length ≤ 63 := Nat.le_trans cut_len (by rw [List.length_map]; exact hn)
    have due9 : ∀ y, (stf y).due = (stf y).own + (stf y).c * (0 : Int) := fun y => by
      show of_ y = of_ y + cf y * 0
      omega
    clear_value hf oaf stf
    refine LH.for_Lg (SqL.of g9) (fun i σ H' => (∃ o6 o9 o10 o11 o12 o13, σ = [some (.ref q), some (.int z0), some (.int bs), some (.ref kc), some (.ref ko), some (.ref kh), o6, some (.ref kn), some (.ref d), o9, o10, o11, o12, o13, none]) ∧ ∃ M h l st n hs, Two K a.House H' M d kn kc ko kh kz (cutV (ns.map V.int) (some 2) (some 62)) h oaf l st n hs i ∧ (∀ y, (st y).due = (st y).own + (st y).c * n y) ∧ hs.length ≤ 140 * i) ⟨⟨_, _, _, _, _, _, rfl⟩, _, _, _, _, _, _, W9, due9, Nat.zero_le _⟩ (fun i σ H' _ ⟨_, _, _, _, _, _, _, W, _⟩ => SqL.of (LH.fr_le _ _ W.gz)) ?_ ?_
    · rintro i x σ Ha hx ⟨⟨o6, o9, o10, o11, o12, o13, rfl⟩, M, h, l, st, n, hs, W, due, lh⟩
      have hi : i < (cutV (ns.map V.int) (some 2) (some 62)).length := (List.getElem?_eq_some_iff.mp hx).1
      obtain ⟨cell, rfl⟩ := cut_int (List.mem_of_getElem? hx)
      walk_at "rd"
      generalize decide (V.int (cell / 7 % 9) = V.int 4) = xb
      refine LH.x_ixL (v := .ref (h xb).p) (SqL.of (LH.fr_le _ _ W.gh)) (by cases xb <;> rfl) ?_
      walk_at "rd"
      refine LH.x_ixL (v := .ref (oaf xb).o) (SqL.of (LH.fr_le _ _ W.go)) (by cases xb <;> rfl) ?_
      walk_at "rd"
      obtain ⟨cl, hcl⟩ : ∃ cl, (if cell < 0 then -cell else cell) = cl := ⟨_, rfl⟩
      rw [hcl]
      refine LH.x_ixL (v := .int (n xb)) (SqL.of W.gn) (by cases xb <;> rfl) ?_
      walk_at "rd"
      refine ⟨h xb, oaf xb, l xb, st xb, M, cl, bs, n xb, rfl, W.b xb, by have := W.sz xb; omega, due xb, fun t Hb N h' l' st' r1 r2 xs1 xs2 tw hp new ks sub B' fr sz cc own dueE ⟨w, hw⟩ gt gr1 gr2 tw1 tw2 r1N okT r2N tN r12 fr1 fr2 => ?_⟩
      refine LH.x_gtup (SqT.of gt) rfl ?_
      walk_at "rs"
      have Wb := W.deed hp new ks sub B' fr sz cc (by rw [hw]; exact hear_rows_len (st := { st xb with due := st'.due }))
      obtain ⟨m, hm⟩ : ∃ m : Int, (if cl % 16 = 5 ∨ (st xb).c = 1 then 1 else 0) = m := ⟨_, rfl⟩
      refine LH.cutS (fun σ' H' => σ' = [some (.ref q), some (.int z0), some (.int bs), some (.ref kc), some (.ref ko), some (.ref kh), o6, some (.ref kn), some (.ref d), some (.int cell), some (.int (if xb = true then 1 else 0)), some (.ref r1), some (.ref r2), o13, none] ∧ LH.Kp kn Hb H' ∧ H' kn = some (.lst [.int (set2 n xb (n xb + m) false), .int (set2 n xb (n xb + m) true)])) (fun NN hN => ?_) ?_
      · walk_at "rd"
        refine LH.x_ixL (v := .int (n xb)) (SqL.of Wb.gn) (by cases xb <;> rfl) ?_
        walk_at "rd"
        rw [hcl, dint]
        by_cases c5 : cl % 16 = 5
        · rw [decide_eq_true c5]
          obtain rfl : 1 = m := by rw [← hm, if_pos (.inl c5)]
          walk_at "rd"
          refine LH.setLV Wb.gn (j := if xb = true then 1 else 0) (by cases xb <;> rfl) fun H3 k3 g3 => hN _ _ ⟨rfl, k3, ?_⟩
          rw [g3]
          cases xb <;> rfl
        · rw [decide_eq_false c5]
          walk_at "rd"
          refine LH.x_ixL (v := .int (st xb).c) (SqL.of (LH.fr_le _ _ (fr _ _ W.gc))) (by cases xb <;> rfl) ?_
          walk_at "rd"
          rw [dint]
          by_cases c6 : (st xb).c = 1
          · rw [decide_eq_true c6]
            obtain rfl : 1 = m := by rw [← hm, if_pos (.inr c6)]
            walk_at "rd"
            refine LH.setLV Wb.gn (j := if xb = true then 1 else 0) (by cases xb <;> rfl) fun H3 k3 g3 => hN _ _ ⟨rfl, k3, ?_⟩
            rw [g3]
            cases xb <;> rfl
          · rw [decide_eq_false c6]
            obtain rfl : 0 = m := by rw [← hm, if_neg fun q => q.elim c5 c6]
            walk_at "rd"
            refine LH.setLV Wb.gn (j := if xb = true then 1 else 0) (by cases xb <;> rfl) fun H3 k3 g3 => hN _ _ ⟨rfl, k3, ?_⟩
            rw [g3]
            cases xb <;> rfl
      rintro σ' Hc ⟨rfl, kc_, gc_⟩
      have Wc := Wb.put (n' := set2 n xb (n xb + m)) kc_ Wb.nM Wb.on ⟨_, gc_⟩ (kc_ _ _ Wb.gd Wb.dn) gc_ fun x hx => (Wb.hh x hx).up ((kc_.ks (List.mem_singleton.mpr rfl)).frS fun b hb => by rw [List.mem_singleton.mp hb]; exact Wb.nM)
      have dueC : ∀ y, (set2 st xb st' y).due = (set2 st xb st' y).own + (set2 st xb st' y).c * set2 n xb (n xb + m) y := bool2 xb (by
        rw [set2_same, set2_same, dueE, own, cc, due xb, ← hm]
        split
        · rw [Int.mul_add, Int.mul_one, Int.add_assoc]
        · rw [Int.add_zero]) (by rw [set2_other, set2_other]; exact due _)
      walk_at "rd"
      have r1kn : r1 ≠ kn := fun e => by rw [e, W.gn] at fr1; cases fr1
      have r1d : r1 ≠ d := fun e => by rw [e, W.gd] at fr1; cases fr1
      have r2kn : r2 ≠ kn := fun e => by rw [e, W.gn] at fr2; cases fr2
      have fc : Same (LH.Fr (N ++ M) Hb) (LH.Fr (N ++ M) Hc) := (kc_.ks (List.mem_singleton.mpr rfl)).frS fun b hb => by rw [List.mem_singleton.mp hb]; exact Wb.nM
      have gr1c := kc_ _ _ gr1 r1kn
      have gr2c := kc_ _ _ gr2 r2kn
      have tw1c := tw1.up fc
      have tw2c := tw2.up fc
      have r1M : r1 ∈ N ++ M := List.mem_append.mpr (.inl r1N)
      have ro : ∀ y, r1 ∉ (set2 h xb h' y).S ++ (oaf y).S := fun y m => by
        rcases List.mem_append.mp m with m | m
        · exact HouseAt.noLst (Wc.b y).s.at_ gr1c m
        · obtain ⟨v, q⟩ := (W.b y).o.alive r1 m
          rw [fr1] at q
          cases q
      refine ⟨r1, xs1, tw, rfl, gr1c, tw1c.up LH.fr_le, ?_⟩
      walk_at "rd"
      refine LH.x_neD (.lst (SqL.of gr1c) (words_dp LH.fr_le tw1c)) (.lst (SqL.of gr2c) (words_dp LH.fr_le tw2c)) (lay_words okT).shaped (lay_words okT).shaped ?_
      rw [(lay_words okT).refl]
      walk_at "rs"
      have sub1 : ∀ b ∈ [r1], b ∈ N ++ M := fun b hb => by rw [List.mem_singleton.mp hb]; exact r1M
      have put1 : ∀ Hd, LH.Kp r1 Hc Hd → (∃ o, Hd r1 = some o) → Two K a.House Hd (N ++ M) d kn kc ko kh kz (cutV (ns.map V.int) (some 2) (some 62)) (set2 h xb h') oaf (set2 l xb l') (set2 st xb st') (set2 n xb (n xb + m)) hs (i + 1) := fun Hd kd al => Wc.put kd r1M ro al (kd _ _ Wc.gd (Ne.symm r1d)) (kd _ _ Wc.gn (Ne.symm r1kn)) fun x hx => (Wc.hh x hx).up ((kd.ks (List.mem_singleton.mpr rfl)).frS sub1)
      refine LH.cutS (fun σ' H' => σ' = [some (.ref q), some (.int z0), some (.int bs), some (.ref kc), some (.ref ko), some (.ref kh), o6, some (.ref kn), some (.ref d), some (.int cell), some (.int (if xb = true then 1 else 0)), some (.ref r1), some (.ref r2), o13, none] ∧ LH.Kp r1 Hc H' ∧ ∃ ys ws, H' r1 = some (.lst ys) ∧ TW (LH.Fr (N ++ M) H') ys ws ∧ ∀ w ∈ ws, w.Ok) (fun NN hN => ?_) ?_
      · walk_at "rd"
        rw [dint]
        by_cases c7 : cell % 5 = 1
        · rw [decide_eq_true c7]
          walk_at "rd"
          refine LH.x_bm0 ?_
          walk_at "rd"
          refine LH.bm0_l (SqL.of gr1c) ?_
          refine LH.x_clear gr1c fun Hd kd gd => ?_
          have Wd := put1 Hd kd ⟨_, gd⟩
          walk_at "rd"
          refine LH.x_bm0 ?_
          walk_at "rd"
          refine LH.x_ixL (v := .ref (set2 h xb h' xb).p) (SqL.of (LH.fr_le _ _ Wd.gh)) (by cases xb <;> rfl) ?_
          walk_at "rd"
          obtain ⟨dxd, hpd⟩ := (Wd.b xb).s.at_.ob
          refine LH.methv hpd rfl ?_
          walk_at "rd"
          refine ⟨_, _, _, rfl, (Wd.b xb).s.at_, fun rk He kvn fk ek _ gk _ => ?_⟩
          refine LH.bm0_l (SqL.of gk) ?_
          refine LH.x_clear gk fun Hf kf gf => ?_
          have edf : Same Hd Hf := fun b o q => kf _ _ (ek _ _ q) fun e => by rw [e, fk] at q; cases q
          have Wf := Wd.same edf
          walk_at "rd"
          refine LH.x_bm0 ?_
          walk_at "rd"
          refine LH.x_ixL (v := .ref (set2 h xb h' xb).p) (SqL.of (LH.fr_le _ _ Wf.gh)) (by cases xb <;> rfl) ?_
          walk_at "rd"
          obtain ⟨dxf, hpf⟩ := (Wf.b xb).s.at_.ob
          refine LH.methv hpf rfl ?_
          walk_at "rd"
          refine ⟨_, _, _, rfl, (Wf.b xb).s.at_, by have := Wf.rw xb; omega, fun rl Hg fl el gl => ?_⟩
          refine LH.bm0_dc gl fun Hi ki => ?_
          walk_at "rd"
          have efi : Same Hf Hi := fun b o q => ki _ _ (el _ _ q) fun e => by rw [e, fl] at q; cases q
          have edi := edf.trans efi
          exact hN _ _ ⟨rfl, fun b o q n => edi _ _ (kd _ _ q n), [], [], edi _ _ gd, .nil, fun w hw => nomatch hw⟩
        · rw [decide_eq_false c7]
          walk_at "rd"
          exact hN _ _ ⟨rfl, fun b o q _ => q, xs1, tw, gr1c, tw1c, okT⟩
      rintro σ' Hd ⟨rfl, kd, ys, ws, gy, twy, oky⟩
      have Wd := (put1 Hd kd ⟨_, gy⟩).drop ro r1d r1kn
      have r1M2 : r1 ∉ (N ++ M).filter fun b => decide (b ≠ r1) := fun m => by simpa using (List.mem_filter.mp m).2
      have fy : Same (LH.Fr (N ++ M) Hd) (LH.Fr ((N ++ M).filter fun b => decide (b ≠ r1)) Hd) := fun b o hb => by
        obtain ⟨q1, q2⟩ := LH.fr_some hb
        exact LH.fr_of q1 fun m => q2 (List.mem_filter.mp m).1
      have twy := twy.up fy
      generalize ((N ++ M).filter fun b => decide (b ≠ r1)) = M2 at Wd r1M2 twy
      walk_at "rd"
      refine LH.bm_l (SqL.of Wd.gd) ?_
      walk_at "rd"
      refine LH.x_listOf (.inl (SqL.of gy)) fun rc He fe ee ge => ?_
      walk_at "rd"
      refine LH.newt (LH.small rfl) fun tp Hf ff ef gf => ?_
      walk_at "rd"
      have We := Wd.same ee
      have Wf := We.same ef
      refine LH.x_appK Wf.gd (by omega) fun Hg kg gg => ?_
      walk_at "rs"
      have fg : Same (LH.Fr M2 Hf) (LH.Fr M2 Hg) := (kg.ks (List.mem_singleton.mpr rfl)).frS fun b hb => by rw [List.mem_singleton.mp hb]; exact Wf.dM
      have rcM := LH.not_in fe Wd.alive
      have tpM := LH.not_in ff We.alive
      have nd : ∀ b, b ∉ M2 → b ≠ d := fun b n e => n (e ▸ Wf.dM)
      have Wg := Wf.put kg Wf.dM Wf.od ⟨_, gg⟩ gg (kg _ _ Wf.gn (Ne.symm Wf.dn)) (fun x hx => by
        rcases List.mem_append.mp hx with hx | hx
        · exact (Wf.hh x hx).up fg
        · rw [List.mem_singleton.mp hx]
          have twg := (twy.up (LH.same_fr (ee.trans ef))).up fg
          exact ⟨tp, _, _, rfl, LH.fr_of (kg _ _ gf (nd _ tpM)) tpM, .inl ⟨_, .lst (SqL.of (LH.fr_of (kg _ _ ((ee.trans ef) _ _ gy) (nd _ r1M2)) r1M2)) (words_dp (Same.refl _) twg), .lst (SqL.of (LH.fr_of (kg _ _ (ef _ _ ge) (nd _ rcM)) rcM)) (words_dp (Same.refl _) twg), (lay_words oky).shaped⟩⟩)
      walk_at "rd"
      refine LH.rn1v (by decide) (by decide) ?_
      refine LH.for_R1 (fun j σ H' => (∃ o13, σ = [some (.ref q), some (.int z0), some (.int bs), some (.ref kc), some (.ref ko), some (.ref kh), o6, some (.ref kn), some (.ref d), some (.int cell), some (.int (if xb = true then 1 else 0)), some (.ref r1), some (.ref r2), o13, none]) ∧ ∃ hs, Two K a.House H' M2 d kn kc ko kh kz (cutV (ns.map V.int) (some 2) (some 62)) (set2 h xb h') oaf (set2 l xb l') (set2 st xb st') (set2 n xb (n xb + m)) hs (i + 1) ∧ hs.length ≤ 140 * i + 1 + 66 * j) ⟨⟨_, rfl⟩, _, Wg, by rw [List.length_append, List.length_singleton]; omega⟩ ?_ ?_
      · rintro j σ Hj hj ⟨⟨o13, rfl⟩, hs', Wj, lj⟩
        have hj2 : j < 2 := by simpa using hj
        obtain ⟨jb, hjb⟩ : ∃ jb : Bool, ((0 : Int) + (j : Int)) = if jb = true then 1 else 0 := by
          match j, hj2 with
          | 0, _ => exact ⟨false, rfl⟩
          | 1, _ => exact ⟨true, rfl⟩
        rw [hjb]
        walk_at "rs"
        refine LH.cutS (fun σ' H' => σ' = [some (.ref q), some (.int z0), some (.int bs), some (.ref kc), some (.ref ko), some (.ref kh), o6, some (.ref kn), some (.ref d), some (.int cell), some (.int (if xb = true then 1 else 0)), some (.ref r1), some (.ref r2), some (.int (if jb = true then 1 else 0)), none] ∧ Same Hj H') (fun NN hN => ?_) ?_
        · walk_at "rd"
          rw [dint]
          by_cases c8 : cell / 5 % 2 = 1
          · rw [decide_eq_true c8]
            walk_at "rd"
            refine LH.x_ixL (v := .ref (set2 h xb h' jb).p) (SqL.of (LH.fr_le _ _ Wj.gh)) (by cases jb <;> rfl) ?_
            walk_at "rd"
            refine LH.x_ixL (v := .ref (oaf jb).o) (SqL.of (LH.fr_le _ _ Wj.go)) (by cases jb <;> rfl) ?_
            walk_at "rd"
            refine ⟨_, _, _, _, _, rfl, (Wj.b jb).s.at_, (Wj.b jb).o, LH.fr_le, by have := Wj.rw jb; omega, fun Hk ek => ?_⟩
            walk_at "rd"
            exact hN _ _ ⟨rfl, ek⟩
          · rw [decide_eq_false c8]
            walk_at "rd"
            exact hN _ _ ⟨rfl, Same.refl _⟩
        rintro σ' Hk ⟨rfl, ek⟩
        have Wk := Wj.same ek
        walk_at "rd"
        refine LH.x_ixL (v := .ref (set2 h xb h' jb).p) (SqL.of (LH.fr_le _ _ Wk.gh)) (by cases jb <;> rfl) ?_
        walk_at "rd"
        refine LH.x_ixL (v := .ref (oaf jb).o) (SqL.of (LH.fr_le _ _ Wk.go)) (by cases jb <;> rfl) ?_
        walk_at "rd"
        refine ⟨_, _, _, _, M2, d, hs', rfl, Wk.b jb, Wk.dM, fun m => Wk.od jb (List.mem_append.mpr (.inl m)), fun m => Wk.od jb (List.mem_append.mpr (.inr m)), Wk.gd, by have := Wk.rw jb; omega, by omega, fun Hl nw kl gl hnw lnw => ?_⟩
        walk_at "rd"
        have fl : Same (LH.Fr M2 Hk) (LH.Fr M2 Hl) := (kl.ks (List.mem_singleton.mpr rfl)).frS fun b hb => by rw [List.mem_singleton.mp hb]; exact Wk.dM
        refine ⟨⟨_, rfl⟩, _, Wk.put kl Wk.dM Wk.od ⟨_, gl⟩ gl (kl _ _ Wk.gn (Ne.symm Wk.dn)) (fun x hx => (List.mem_append.mp hx).elim (fun m => (Wk.hh x m).up fl) (hnw x)), ?_⟩
        rw [List.length_append]
        omega
      · rintro σ Hj ⟨⟨o13, rfl⟩, hs', Wj, lj⟩
        walk_at "rd"
        exact ⟨⟨_, _, _, _, _, _, rfl⟩, _, _, _, _, _, _, Wj, dueC, by have : (2 : Int).toNat = 2 := rfl; omega⟩
    · rintro σ Ha ⟨⟨o6, o9, o10, o11, o12, o13, rfl⟩, M, h, l, st, n, hs, W, due, lh⟩
      walk_at "rd"
      have gz1 : ∃ u : Nat, 11 + z0 % 2 = (u : Int) ∧ (u = 11 ∨ u = 12) := ⟨(11 + z0 % 2).toNat, by omega, by omega⟩
      have gz2 : ∃ u : Nat, z0 / 48 % 11 = (u : Int) ∧ u ≤ 10 := ⟨(z0 / 48 % 11).toNat, by omega, by omega⟩
      obtain ⟨u1, hu1, m1⟩ := gz1
      obtain ⟨u2, hu2, m2⟩ := gz2
      rw [hu1, hu2]
      refine ⟨u1, u2, rfl, by simpa using m1, ?_, fun Hb eb => ?_⟩
      · simp only [List.mem_cons, List.not_mem_nil, or_false]
        omega
      have Wb := W.same eb
      walk_at "rd"
      refine LH.lc_L (SqL.of Wb.gd) (by omega) (fun _ => false) id (fun _ => rfl) ?_ (fun _ _ h => by cases h) fun p3 H10 f10 e10 g10 => ?_
      · intro v hv Hx ex Q3 q3
        obtain ⟨t, u, y, rfl, ht, he⟩ := (Wb.hh v hv).up (LH.fr_le.trans ex)
        walk_at "rd"
        refine LH.x_ixT (SqT.of ht) rfl ?_
        walk_at "rd"
        refine LH.x_ixT (SqT.of ht) rfl ?_
        refine EqX.ne he ?_
        walk_at "rd"
        exact q3 _ (Same.refl _)
      walk_at "rd"
      refine LH.newl (LH.small rfl) fun p4 H11 f11 e11 g11 => ?_
      have g10' : H10 p3 = some (.lst []) := by
        rw [g10]
        have : (hs.filter fun _ => false) = [] := List.filter_eq_nil_iff.mpr (by simp)
        rw [this]
        rfl
      refine LH.x_eqD (.lst (SqL.of (e11 _ _ g10')) .nil) (.lst (SqL.of g11) .nil) (by decide +kernel) (by decide +kernel) ?_
      rw [show PyData.eqv (.list []) (.list []) = true by rw [eqv_nil]; rfl]
      exact k _
end
end K6
namespace K6
open PySem L2
theorem all_mk {l : PySem.W.OpenLaw} {w : World} {K : PySem.W.Frag} {h : Heap} {mg : Str → Option Value} {fa f0 f1 f2 f3 f4 f5 f6 f7 f8 f9 f10 f11 f12 f13 f14 f15 f16 f17 f18 f19 f20 f21 f22 f23 f24 f25 f26 f27 f28 f29 f30 c0 c1 c2 c3 c4 c5 : Addr} (X : K.In h) (G : h.Ns mainGlobals mg) (hfa : mg "law" = some (.ref fa))
    {od0 an0 : Option Addr} {sl0 : Array (Option Value)} {oc0 kV0 dc0 pm0 cd0 ct0 : Value} {od1 an1 : Option Addr} {sl1 : Array (Option Value)} {oc1 kV1 dc1 pm1 cd1 ct1 : Value} {od2 an2 : Option Addr} {sl2 : Array (Option Value)} {oc2 kV2 dc2 pm2 cd2 ct2 : Value} {od3 an3 : Option Addr} {sl3 : Array (Option Value)} {oc3 kV3 dc3 pm3 cd3 ct3 : Value} {od4 an4 : Option Addr} {sl4 : Array (Option Value)} {oc4 kV4 dc4 pm4 cd4 ct4 : Value} {od5 an5 : Option Addr} {sl5 : Array (Option Value)} {oc5 kV5 dc5 pm5 cd5 ct5 : Value} {od6 an6 : Option Addr} {sl6 : Array (Option Value)} {oc6 kV6 dc6 pm6 cd6 ct6 : Value} {od7 an7 : Option Addr} {sl7 : Array (Option Value)} {oc7 kV7 dc7 pm7 cd7 ct7 : Value} {od8 an8 : Option Addr} {sl8 : Array (Option Value)} {oc8 kV8 dc8 pm8 cd8 ct8 : Value} {od9 an9 : Option Addr} {sl9 : Array (Option Value)} {oc9 kV9 dc9 pm9 cd9 ct9 : Value} {od10 an10 : Option Addr} {sl10 : Array (Option Value)} {oc10 kV10 dc10 pm10 cd10 ct10 : Value} {od11 an11 : Option Addr} {sl11 : Array (Option Value)} {oc11 kV11 dc11 pm11 cd11 ct11 : Value} {od12 an12 : Option Addr} {sl12 : Array (Option Value)} {oc12 kV12 dc12 pm12 cd12 ct12 : Value} {od13 an13 : Option Addr} {sl13 : Array (Option Value)} {oc13 kV13 dc13 pm13 cd13 ct13 : Value} {od14 an14 : Option Addr} {sl14 : Array (Option Value)} {oc14 kV14 dc14 pm14 cd14 ct14 : Value} {od15 an15 : Option Addr} {sl15 : Array (Option Value)} {oc15 kV15 dc15 pm15 cd15 ct15 : Value} {od16 an16 : Option Addr} {sl16 : Array (Option Value)} {oc16 kV16 dc16 pm16 cd16 ct16 : Value} {od17 an17 : Option Addr} {sl17 : Array (Option Value)} {oc17 kV17 dc17 pm17 cd17 ct17 : Value} {od18 an18 : Option Addr} {sl18 : Array (Option Value)} {oc18 kV18 dc18 pm18 cd18 ct18 : Value} {od19 an19 : Option Addr} {sl19 : Array (Option Value)} {oc19 kV19 dc19 pm19 cd19 ct19 : Value} {od20 an20 : Option Addr} {sl20 : Array (Option Value)} {oc20 kV20 dc20 pm20 cd20 ct20 : Value} {od21 an21 : Option Addr} {sl21 : Array (Option Value)} {oc21 kV21 dc21 pm21 cd21 ct21 : Value} {od22 an22 : Option Addr} {sl22 : Array (Option Value)} {oc22 kV22 dc22 pm22 cd22 ct22 : Value} {od23 an23 : Option Addr} {sl23 : Array (Option Value)} {oc23 kV23 dc23 pm23 cd23 ct23 : Value} {od24 an24 : Option Addr} {sl24 : Array (Option Value)} {oc24 kV24 dc24 pm24 cd24 ct24 : Value} {od25 an25 : Option Addr} {sl25 : Array (Option Value)} {oc25 kV25 dc25 pm25 cd25 ct25 : Value} {od26 an26 : Option Addr} {sl26 : Array (Option Value)} {oc26 kV26 dc26 pm26 cd26 ct26 : Value} {od27 an27 : Option Addr} {sl27 : Array (Option Value)} {oc27 kV27 dc27 pm27 cd27 ct27 : Value} {od28 an28 : Option Addr} {sl28 : Array (Option Value)} {oc28 kV28 dc28 pm28 cd28 ct28 : Value} {od29 an29 : Option Addr} {sl29 : Array (Option Value)} {oc29 kV29 dc29 pm29 cd29 ct29 : Value} {od30 an30 : Option Addr} {sl30 : Array (Option Value)} {oc30 kV30 dc30 pm30 cd30 ct30 : Value}
    (g0 : PySem.W.nsIn K mainGlobals "HouseError" = some (some (.ref c0)))
    (g1 : PySem.W.nsIn K mainGlobals "BadCount" = some (some (.ref c1)))
    (g2 : PySem.W.nsIn K mainGlobals "BadHouse" = some (some (.ref c2)))
    (g3 : PySem.W.nsIn K mainGlobals "BadRow" = some (some (.ref c3)))
    (g4 : PySem.W.nsIn K mainGlobals "NotWritten" = some (some (.ref c4)))
    (g5 : PySem.W.nsIn K mainGlobals "House" = some (some (.ref c5)))
    (a0 : PySem.W.nsIn K mainGlobals "is_whole" = some (some (.ref f0)))
    (l0 : K.lookup f0 = some ⟨oc0, od0, .func (PySem.W.fnOf "is_whole" "is_whole" (defArgs s_is_whole) (defBody s_is_whole) (defScope s_is_whole) .none kV0 dc0 pm0 an0 cd0 ct0), sl0⟩)
    (c0c : PySem.W.codeIn K cd0 "is_whole" = true)
    (k0 : PySem.W.keepIn K (.ref f0) = true)
    (a1 : PySem.W.nsIn K mainGlobals "check_count" = some (some (.ref f1)))
    (l1 : K.lookup f1 = some ⟨oc1, od1, .func (PySem.W.fnOf "check_count" "check_count" (defArgs s_check_count) (defBody s_check_count) (defScope s_check_count) .none kV1 dc1 pm1 an1 cd1 ct1), sl1⟩)
    (c1c : PySem.W.codeIn K cd1 "check_count" = true)
    (k1 : PySem.W.keepIn K (.ref f1) = true)
    (a2 : PySem.W.nsIn K mainGlobals "is_house" = some (some (.ref f2)))
    (l2 : K.lookup f2 = some ⟨oc2, od2, .func (PySem.W.fnOf "is_house" "is_house" (defArgs s_is_house) (defBody s_is_house) (defScope s_is_house) .none kV2 dc2 pm2 an2 cd2 ct2), sl2⟩)
    (c2c : PySem.W.codeIn K cd2 "is_house" = true)
    (k2 : PySem.W.keepIn K (.ref f2) = true)
    (a3 : PySem.W.nsIn K mainGlobals "most_liars" = some (some (.ref f3)))
    (l3 : K.lookup f3 = some ⟨oc3, od3, .func (PySem.W.fnOf "most_liars" "most_liars" (defArgs s_most_liars) (defBody s_most_liars) (defScope s_most_liars) .none kV3 dc3 pm3 an3 cd3 ct3), sl3⟩)
    (c3c : PySem.W.codeIn K cd3 "most_liars" = true)
    (k3 : PySem.W.keepIn K (.ref f3) = true)
    (a4 : PySem.W.nsIn K mainGlobals "enough" = some (some (.ref f4)))
    (l4 : K.lookup f4 = some ⟨oc4, od4, .func (PySem.W.fnOf "enough" "enough" (defArgs s_enough) (defBody s_enough) (defScope s_enough) .none kV4 dc4 pm4 an4 cd4 ct4), sl4⟩)
    (c4c : PySem.W.codeIn K cd4 "enough" = true)
    (k4 : PySem.W.keepIn K (.ref f4) = true)
    (a5 : PySem.W.nsIn K mainGlobals "is_row" = some (some (.ref f5)))
    (l5 : K.lookup f5 = some ⟨oc5, od5, .func (PySem.W.fnOf "is_row" "is_row" (defArgs s_is_row) (defBody s_is_row) (defScope s_is_row) .none kV5 dc5 pm5 an5 cd5 ct5), sl5⟩)
    (c5c : PySem.W.codeIn K cd5 "is_row" = true)
    (k5 : PySem.W.keepIn K (.ref f5) = true)
    (a6 : PySem.W.nsIn K mainGlobals "place" = some (some (.ref f6)))
    (l6 : K.lookup f6 = some ⟨oc6, od6, .func (PySem.W.fnOf "place" "place" (defArgs s_place) (defBody s_place) (defScope s_place) .none kV6 dc6 pm6 an6 cd6 ct6), sl6⟩)
    (c6c : PySem.W.codeIn K cd6 "place" = true)
    (k6 : PySem.W.keepIn K (.ref f6) = true)
    (a7 : PySem.W.findIn K (.ref c5) "__init__" = some (some (.ref f7)))
    (l7 : K.lookup f7 = some ⟨oc7, od7, .func (PySem.W.fnOf "__init__" "House.__init__" (defArgs s_House___init__) (defBody s_House___init__) (defScope s_House___init__) .none kV7 dc7 pm7 an7 cd7 ct7), sl7⟩)
    (c7c : PySem.W.codeIn K cd7 "House.__init__" = true)
    (k7 : PySem.W.keepIn K (.ref f7) = true)
    (ii7 : PySem.W.isFn K (.ref f7) = true)
    (a8 : PySem.W.findIn K (.ref c5) "call" = some (some (.ref f8)))
    (l8 : K.lookup f8 = some ⟨oc8, od8, .func (PySem.W.fnOf "call" "House.call" (defArgs s_House_call) (defBody s_House_call) (defScope s_House_call) .none kV8 dc8 pm8 an8 cd8 ct8), sl8⟩)
    (c8c : PySem.W.codeIn K cd8 "House.call" = true)
    (k8 : PySem.W.keepIn K (.ref f8) = true)
    (ii8 : PySem.W.isFn K (.ref f8) = true)
    (a9 : PySem.W.findIn K (.ref c5) "hear" = some (some (.ref f9)))
    (l9 : K.lookup f9 = some ⟨oc9, od9, .func (PySem.W.fnOf "hear" "House.hear" (defArgs s_House_hear) (defBody s_House_hear) (defScope s_House_hear) .none kV9 dc9 pm9 an9 cd9 ct9), sl9⟩)
    (c9c : PySem.W.codeIn K cd9 "House.hear" = true)
    (k9 : PySem.W.keepIn K (.ref f9) = true)
    (ii9 : PySem.W.isFn K (.ref f9) = true)
    (a10 : PySem.W.findIn K (.ref c5) "ledger" = some (some (.ref f10)))
    (l10 : K.lookup f10 = some ⟨oc10, od10, .func (PySem.W.fnOf "ledger" "House.ledger" (defArgs s_House_ledger) (defBody s_House_ledger) (defScope s_House_ledger) .none kV10 dc10 pm10 an10 cd10 ct10), sl10⟩)
    (c10c : PySem.W.codeIn K cd10 "House.ledger" = true)
    (k10 : PySem.W.keepIn K (.ref f10) = true)
    (ii10 : PySem.W.isFn K (.ref f10) = true)
    (a11 : PySem.W.findIn K (.ref c5) "backing" = some (some (.ref f11)))
    (l11 : K.lookup f11 = some ⟨oc11, od11, .func (PySem.W.fnOf "backing" "House.backing" (defArgs s_House_backing) (defBody s_House_backing) (defScope s_House_backing) .none kV11 dc11 pm11 an11 cd11 ct11), sl11⟩)
    (c11c : PySem.W.codeIn K cd11 "House.backing" = true)
    (k11 : PySem.W.keepIn K (.ref f11) = true)
    (ii11 : PySem.W.isFn K (.ref f11) = true)
    (a12 : PySem.W.findIn K (.ref c5) "caught" = some (some (.ref f12)))
    (l12 : K.lookup f12 = some ⟨oc12, od12, .func (PySem.W.fnOf "caught" "House.caught" (defArgs s_House_caught) (defBody s_House_caught) (defScope s_House_caught) .none kV12 dc12 pm12 an12 cd12 ct12), sl12⟩)
    (c12c : PySem.W.codeIn K cd12 "House.caught" = true)
    (k12 : PySem.W.keepIn K (.ref f12) = true)
    (ii12 : PySem.W.isFn K (.ref f12) = true)
    (a13 : PySem.W.findIn K (.ref c5) "_learn" = some (some (.ref f13)))
    (l13 : K.lookup f13 = some ⟨oc13, od13, .func (PySem.W.fnOf "_learn" "House._learn" (defArgs s_House__learn) (defBody s_House__learn) (defScope s_House__learn) .none kV13 dc13 pm13 an13 cd13 ct13), sl13⟩)
    (c13c : PySem.W.codeIn K cd13 "House._learn" = true)
    (k13 : PySem.W.keepIn K (.ref f13) = true)
    (ii13 : PySem.W.isFn K (.ref f13) = true)
    (a14 : PySem.W.findIn K (.ref c5) "_mark" = some (some (.ref f14)))
    (l14 : K.lookup f14 = some ⟨oc14, od14, .func (PySem.W.fnOf "_mark" "House._mark" (defArgs s_House__mark) (defBody s_House__mark) (defScope s_House__mark) .none kV14 dc14 pm14 an14 cd14 ct14), sl14⟩)
    (c14c : PySem.W.codeIn K cd14 "House._mark" = true)
    (k14 : PySem.W.keepIn K (.ref f14) = true)
    (ii14 : PySem.W.isFn K (.ref f14) = true)
    (a15 : PySem.W.findIn K (.ref c5) "_write" = some (some (.ref f15)))
    (l15 : K.lookup f15 = some ⟨oc15, od15, .func (PySem.W.fnOf "_write" "House._write" (defArgs s_House__write) (defBody s_House__write) (defScope s_House__write) .none kV15 dc15 pm15 an15 cd15 ct15), sl15⟩)
    (c15c : PySem.W.codeIn K cd15 "House._write" = true)
    (k15 : PySem.W.keepIn K (.ref f15) = true)
    (ii15 : PySem.W.isFn K (.ref f15) = true)
    (a16 : PySem.W.findIn K (.ref c5) "_name" = some (some (.ref f16)))
    (l16 : K.lookup f16 = some ⟨oc16, od16, .func (PySem.W.fnOf "_name" "House._name" (defArgs s_House__name) (defBody s_House__name) (defScope s_House__name) .none kV16 dc16 pm16 an16 cd16 ct16), sl16⟩)
    (c16c : PySem.W.codeIn K cd16 "House._name" = true)
    (k16 : PySem.W.keepIn K (.ref f16) = true)
    (ii16 : PySem.W.isFn K (.ref f16) = true)
    (a17 : PySem.W.nsIn K mainGlobals "_law_at" = some (some (.ref f17)))
    (l17 : K.lookup f17 = some ⟨oc17, od17, .func (PySem.W.fnOf "_law_at" "_law_at" (defArgs s__law_at) (defBody s__law_at) (defScope s__law_at) .none kV17 dc17 pm17 an17 cd17 ct17), sl17⟩)
    (c17c : PySem.W.codeIn K cd17 "_law_at" = true)
    (k17 : PySem.W.keepIn K (.ref f17) = true)
    (a18 : PySem.W.nsIn K mainGlobals "_law_whole" = some (some (.ref f18)))
    (l18 : K.lookup f18 = some ⟨oc18, od18, .func (PySem.W.fnOf "_law_whole" "_law_whole" (defArgs s__law_whole) (defBody s__law_whole) (defScope s__law_whole) .none kV18 dc18 pm18 an18 cd18 ct18), sl18⟩)
    (c18c : PySem.W.codeIn K cd18 "_law_whole" = true)
    (k18 : PySem.W.keepIn K (.ref f18) = true)
    (a19 : PySem.W.nsIn K mainGlobals "_law_row" = some (some (.ref f19)))
    (l19 : K.lookup f19 = some ⟨oc19, od19, .func (PySem.W.fnOf "_law_row" "_law_row" (defArgs s__law_row) (defBody s__law_row) (defScope s__law_row) .none kV19 dc19 pm19 an19 cd19 ct19), sl19⟩)
    (c19c : PySem.W.codeIn K cd19 "_law_row" = true)
    (k19 : PySem.W.keepIn K (.ref f19) = true)
    (a20 : PySem.W.nsIn K mainGlobals "_law_enough" = some (some (.ref f20)))
    (l20 : K.lookup f20 = some ⟨oc20, od20, .func (PySem.W.fnOf "_law_enough" "_law_enough" (defArgs s__law_enough) (defBody s__law_enough) (defScope s__law_enough) .none kV20 dc20 pm20 an20 cd20 ct20), sl20⟩)
    (c20c : PySem.W.codeIn K cd20 "_law_enough" = true)
    (k20 : PySem.W.keepIn K (.ref f20) = true)
    (a21 : PySem.W.nsIn K mainGlobals "_law_words" = some (some (.ref f21)))
    (l21 : K.lookup f21 = some ⟨oc21, od21, .func (PySem.W.fnOf "_law_words" "_law_words" (defArgs s__law_words) (defBody s__law_words) (defScope s__law_words) .none kV21 dc21 pm21 an21 cd21 ct21), sl21⟩)
    (c21c : PySem.W.codeIn K cd21 "_law_words" = true)
    (k21 : PySem.W.keepIn K (.ref f21) = true)
    (a22 : PySem.W.nsIn K mainGlobals "_law_own" = some (some (.ref f22)))
    (l22 : K.lookup f22 = some ⟨oc22, od22, .func (PySem.W.fnOf "_law_own" "_law_own" (defArgs s__law_own) (defBody s__law_own) (defScope s__law_own) .none kV22 dc22 pm22 an22 cd22 ct22), sl22⟩)
    (c22c : PySem.W.codeIn K cd22 "_law_own" = true)
    (k22 : PySem.W.keepIn K (.ref f22) = true)
    (a23 : PySem.W.nsIn K mainGlobals "_law_heard" = some (some (.ref f23)))
    (l23 : K.lookup f23 = some ⟨oc23, od23, .func (PySem.W.fnOf "_law_heard" "_law_heard" (defArgs s__law_heard) (defBody s__law_heard) (defScope s__law_heard) .none kV23 dc23 pm23 an23 cd23 ct23), sl23⟩)
    (c23c : PySem.W.codeIn K cd23 "_law_heard" = true)
    (k23 : PySem.W.keepIn K (.ref f23) = true)
    (a24 : PySem.W.nsIn K mainGlobals "_law_word" = some (some (.ref f24)))
    (l24 : K.lookup f24 = some ⟨oc24, od24, .func (PySem.W.fnOf "_law_word" "_law_word" (defArgs s__law_word) (defBody s__law_word) (defScope s__law_word) .none kV24 dc24 pm24 an24 cd24 ct24), sl24⟩)
    (c24c : PySem.W.codeIn K cd24 "_law_word" = true)
    (k24 : PySem.W.keepIn K (.ref f24) = true)
    (a25 : PySem.W.nsIn K mainGlobals "_law_turned" = some (some (.ref f25)))
    (l25 : K.lookup f25 = some ⟨oc25, od25, .func (PySem.W.fnOf "_law_turned" "_law_turned" (defArgs s__law_turned) (defBody s__law_turned) (defScope s__law_turned) .none kV25 dc25 pm25 an25 cd25 ct25), sl25⟩)
    (c25c : PySem.W.codeIn K cd25 "_law_turned" = true)
    (k25 : PySem.W.keepIn K (.ref f25) = true)
    (a26 : PySem.W.nsIn K mainGlobals "_law_state" = some (some (.ref f26)))
    (l26 : K.lookup f26 = some ⟨oc26, od26, .func (PySem.W.fnOf "_law_state" "_law_state" (defArgs s__law_state) (defBody s__law_state) (defScope s__law_state) .none kV26 dc26 pm26 an26 cd26 ct26), sl26⟩)
    (c26c : PySem.W.codeIn K cd26 "_law_state" = true)
    (k26 : PySem.W.keepIn K (.ref f26) = true)
    (a27 : PySem.W.nsIn K mainGlobals "_law_unwritten" = some (some (.ref f27)))
    (l27 : K.lookup f27 = some ⟨oc27, od27, .func (PySem.W.fnOf "_law_unwritten" "_law_unwritten" (defArgs s__law_unwritten) (defBody s__law_unwritten) (defScope s__law_unwritten) .none kV27 dc27 pm27 an27 cd27 ct27), sl27⟩)
    (c27c : PySem.W.codeIn K cd27 "_law_unwritten" = true)
    (k27 : PySem.W.keepIn K (.ref f27) = true)
    (a28 : PySem.W.nsIn K mainGlobals "_law_deed" = some (some (.ref f28)))
    (l28 : K.lookup f28 = some ⟨oc28, od28, .func (PySem.W.fnOf "_law_deed" "_law_deed" (defArgs s__law_deed) (defBody s__law_deed) (defScope s__law_deed) .none kV28 dc28 pm28 an28 cd28 ct28), sl28⟩)
    (c28c : PySem.W.codeIn K cd28 "_law_deed" = true)
    (k28 : PySem.W.keepIn K (.ref f28) = true)
    (a29 : PySem.W.nsIn K mainGlobals "_law_great" = some (some (.ref f29)))
    (l29 : K.lookup f29 = some ⟨oc29, od29, .func (PySem.W.fnOf "_law_great" "_law_great" (defArgs s__law_great) (defBody s__law_great) (defScope s__law_great) .none kV29 dc29 pm29 an29 cd29 ct29), sl29⟩)
    (c29c : PySem.W.codeIn K cd29 "_law_great" = true)
    (k29 : PySem.W.keepIn K (.ref f29) = true)
    (a30 : PySem.W.nsIn K mainGlobals "law" = some (some (.ref f30)))
    (l30 : K.lookup f30 = some ⟨oc30, od30, .func (PySem.W.fnOf "law" "law" (defArgs s_law) (defBody s_law) (defScope s_law) .none kV30 dc30 pm30 an30 cd30 ct30), sl30⟩)
    (c30c : PySem.W.codeIn K cd30 "law" = true)
    (k30 : PySem.W.keepIn K (.ref f30) = true)
    (pg_c5 : PySem.W.plainGet K c5 Str.empty = true)
    (hd_c5 : PySem.W.hasDictIn K c5 = true)
    (po_c5 : PySem.W.plainOver K c5 = true)
    (sa_c5 : PySem.W.findIn K (.ref c5) "__setattr__" = some (some (.builtin "object.__setattr__")))
    (mm_c5 : PySem.W.makesIn K c5 = true)
    (kp_c5 : PySem.W.keepIn K (.ref c5) = true)
    (na_c5__count : PySem.W.findIn K (.ref c5) "_count" = some none)
    (na_c5__own : PySem.W.findIn K (.ref c5) "_own" = some none)
    (na_c5__due : PySem.W.findIn K (.ref c5) "_due" = some none)
    (na_c5__known : PySem.W.findIn K (.ref c5) "_known" = some none)
    (na_c5__earliest : PySem.W.findIn K (.ref c5) "_earliest" = some none)
    (na_c5__marked : PySem.W.findIn K (.ref c5) "_marked" = some none)
    (na_c5__marks : PySem.W.findIn K (.ref c5) "_marks" = some none)
    (na_c5__rows : PySem.W.findIn K (.ref c5) "_rows" = some none)
    (na_c5__backings : PySem.W.findIn K (.ref c5) "_backings" = some none)
    (na_c5__named : PySem.W.findIn K (.ref c5) "_named" = some none)
    (x_c1 : PySem.W.excIn K c1 VEs "ValueError.__new__" = true)
    (kk_c1 : PySem.W.keepIn K (.ref c1) = true)
    (bx_c1 : PySem.W.subIn K (.ref c1) (.type "BaseException") = some true)
    (t_c1 : PySem.W.typeIn K (.ref c1) = some (.type "type"))
    (e_c1 : PySem.W.exmOne K (.ref c1) (.ref c0) = some true)
    (y1_c1 : PySem.W.findIn K (.ref c1) "__getattribute__" = some (some (.builtin "BaseException.__getattribute__")))
    (y2_c1 : PySem.W.findIn K (.ref c1) "__getattr__" = some none)
    (y4_c1 : PySem.W.hasDictIn K c1 = true)
    (y5_c1 : PySem.W.findIn K (.ref c1) "__class__" = some (some (.builtin "object.__class__")))
    (y8_c1 : PySem.W.mroIn K c1 (.type "object") = some true)
    (x_c2 : PySem.W.excIn K c2 VEs "ValueError.__new__" = true)
    (kk_c2 : PySem.W.keepIn K (.ref c2) = true)
    (bx_c2 : PySem.W.subIn K (.ref c2) (.type "BaseException") = some true)
    (t_c2 : PySem.W.typeIn K (.ref c2) = some (.type "type"))
    (e_c2 : PySem.W.exmOne K (.ref c2) (.ref c0) = some true)
    (y1_c2 : PySem.W.findIn K (.ref c2) "__getattribute__" = some (some (.builtin "BaseException.__getattribute__")))
    (y2_c2 : PySem.W.findIn K (.ref c2) "__getattr__" = some none)
    (y4_c2 : PySem.W.hasDictIn K c2 = true)
    (y5_c2 : PySem.W.findIn K (.ref c2) "__class__" = some (some (.builtin "object.__class__")))
    (y8_c2 : PySem.W.mroIn K c2 (.type "object") = some true)
    (x_c3 : PySem.W.excIn K c3 VEs "ValueError.__new__" = true)
    (kk_c3 : PySem.W.keepIn K (.ref c3) = true)
    (bx_c3 : PySem.W.subIn K (.ref c3) (.type "BaseException") = some true)
    (t_c3 : PySem.W.typeIn K (.ref c3) = some (.type "type"))
    (e_c3 : PySem.W.exmOne K (.ref c3) (.ref c0) = some true)
    (y1_c3 : PySem.W.findIn K (.ref c3) "__getattribute__" = some (some (.builtin "BaseException.__getattribute__")))
    (y2_c3 : PySem.W.findIn K (.ref c3) "__getattr__" = some none)
    (y4_c3 : PySem.W.hasDictIn K c3 = true)
    (y5_c3 : PySem.W.findIn K (.ref c3) "__class__" = some (some (.builtin "object.__class__")))
    (y8_c3 : PySem.W.mroIn K c3 (.type "object") = some true)
    (x_c4 : PySem.W.excIn K c4 VEs "ValueError.__new__" = true)
    (kk_c4 : PySem.W.keepIn K (.ref c4) = true)
    (bx_c4 : PySem.W.subIn K (.ref c4) (.type "BaseException") = some true)
    (t_c4 : PySem.W.typeIn K (.ref c4) = some (.type "type"))
    (e_c4 : PySem.W.exmOne K (.ref c4) (.ref c0) = some true)
    (es_c4 : PySem.W.exmOne K (.ref c4) (.ref c4) = some true)
    (y1_c4 : PySem.W.findIn K (.ref c4) "__getattribute__" = some (some (.builtin "BaseException.__getattribute__")))
    (y2_c4 : PySem.W.findIn K (.ref c4) "__getattr__" = some none)
    (y4_c4 : PySem.W.hasDictIn K c4 = true)
    (y5_c4 : PySem.W.findIn K (.ref c4) "__class__" = some (some (.builtin "object.__class__")))
    (y8_c4 : PySem.W.mroIn K c4 (.type "object") = some true)
    (y6 : PySem.W.specialIn K (.builtin "object.__class__") "__get__" = some (some (.builtin "getset_descriptor.__get__")))
    (y7 : PySem.W.takesIn K (.builtin "object.__class__") = some true)
    (i_c1_c1 : PySem.W.kitOne K (.ref c1) (.ref c1) = some true)
    (i_c1_c2 : PySem.W.kitOne K (.ref c1) (.ref c2) = some false)
    (i_c1_c3 : PySem.W.kitOne K (.ref c1) (.ref c3) = some false)
    (i_c1_BadWord : PySem.W.kitOne K (.ref c1) (.type "BadWord") = some false)
    (i_c1_Forged : PySem.W.kitOne K (.ref c1) (.type "Forged") = some false)
    (i_c1_NoLetter : PySem.W.kitOne K (.ref c1) (.type "NoLetter") = some false)
    (i_c1_c4 : PySem.W.kitOne K (.ref c1) (.ref c4) = some false)
    (i_c1_NoText : PySem.W.kitOne K (.ref c1) (.type "NoText") = some false)
    (i_c1_ValueError : PySem.W.kitOne K (.ref c1) (.type "ValueError") = some true)
    (i_c2_c1 : PySem.W.kitOne K (.ref c2) (.ref c1) = some false)
    (i_c2_c2 : PySem.W.kitOne K (.ref c2) (.ref c2) = some true)
    (i_c2_c3 : PySem.W.kitOne K (.ref c2) (.ref c3) = some false)
    (i_c2_BadWord : PySem.W.kitOne K (.ref c2) (.type "BadWord") = some false)
    (i_c2_Forged : PySem.W.kitOne K (.ref c2) (.type "Forged") = some false)
    (i_c2_NoLetter : PySem.W.kitOne K (.ref c2) (.type "NoLetter") = some false)
    (i_c2_c4 : PySem.W.kitOne K (.ref c2) (.ref c4) = some false)
    (i_c2_NoText : PySem.W.kitOne K (.ref c2) (.type "NoText") = some false)
    (i_c2_ValueError : PySem.W.kitOne K (.ref c2) (.type "ValueError") = some true)
    (i_c3_c1 : PySem.W.kitOne K (.ref c3) (.ref c1) = some false)
    (i_c3_c2 : PySem.W.kitOne K (.ref c3) (.ref c2) = some false)
    (i_c3_c3 : PySem.W.kitOne K (.ref c3) (.ref c3) = some true)
    (i_c3_BadWord : PySem.W.kitOne K (.ref c3) (.type "BadWord") = some false)
    (i_c3_Forged : PySem.W.kitOne K (.ref c3) (.type "Forged") = some false)
    (i_c3_NoLetter : PySem.W.kitOne K (.ref c3) (.type "NoLetter") = some false)
    (i_c3_c4 : PySem.W.kitOne K (.ref c3) (.ref c4) = some false)
    (i_c3_NoText : PySem.W.kitOne K (.ref c3) (.type "NoText") = some false)
    (i_c3_ValueError : PySem.W.kitOne K (.ref c3) (.type "ValueError") = some true)
    (i_c4_c1 : PySem.W.kitOne K (.ref c4) (.ref c1) = some false)
    (i_c4_c2 : PySem.W.kitOne K (.ref c4) (.ref c2) = some false)
    (i_c4_c3 : PySem.W.kitOne K (.ref c4) (.ref c3) = some false)
    (i_c4_BadWord : PySem.W.kitOne K (.ref c4) (.type "BadWord") = some false)
    (i_c4_Forged : PySem.W.kitOne K (.ref c4) (.type "Forged") = some false)
    (i_c4_NoLetter : PySem.W.kitOne K (.ref c4) (.type "NoLetter") = some false)
    (i_c4_c4 : PySem.W.kitOne K (.ref c4) (.ref c4) = some true)
    (i_c4_NoText : PySem.W.kitOne K (.ref c4) (.type "NoText") = some false)
    (i_c4_ValueError : PySem.W.kitOne K (.ref c4) (.type "ValueError") = some true)
    (m_MOST_HOUSES : ∃ t, PySem.W.nsIn K mainGlobals "MOST_HOUSES" = some (some (.int 12 t)))
    (m_SAY : ∃ t, PySem.W.nsIn K mainGlobals "SAY" = some (some (.str "say" t)))
    (m_MARK : ∃ t, PySem.W.nsIn K mainGlobals "MARK" = some (some (.str "mark" t)))
    (m_LONGEST_ROW : ∃ t, PySem.W.nsIn K mainGlobals "LONGEST_ROW" = some (some (.int 8 t)))
    (m_LETTERS : ∃ t, PySem.W.nsIn K mainGlobals "LETTERS" = some (some (.str "abcdefghijklmnopqrstuvwxyz" t)))
    (n_abs : PySem.W.nsIn K mainGlobals "abs" = some none)
    (n_all : PySem.W.nsIn K mainGlobals "all" = some none)
    (n_bool : PySem.W.nsIn K mainGlobals "bool" = some none)
    (n_dict : PySem.W.nsIn K mainGlobals "dict" = some none)
    (n_int : PySem.W.nsIn K mainGlobals "int" = some none)
    (n_isinstance : PySem.W.nsIn K mainGlobals "isinstance" = some none)
    (n_len : PySem.W.nsIn K mainGlobals "len" = some none)
    (n_list : PySem.W.nsIn K mainGlobals "list" = some none)
    (n_range : PySem.W.nsIn K mainGlobals "range" = some none)
    (n_sorted : PySem.W.nsIn K mainGlobals "sorted" = some none)
    (n_str : PySem.W.nsIn K mainGlobals "str" = some none)
    (n_tuple : PySem.W.nsIn K mainGlobals "tuple" = some none)
    (n_type : PySem.W.nsIn K mainGlobals "type" = some none) :
    ∃ fd : FuncData, (∀ (s : Shared) (v : Value), BindsTo s fd ⟨[v], []⟩ [("_law_script", v)]) ∧ ∀ base : Heap, K.In base → base.Ns mainGlobals mg → FnOk l.prog w K mg base CX0 9 fa fd ["_law_script"] (spLaw K) := by
  have e := hfa.symm.trans (PySem.W.mg_of X G a30)
  cases e
  have F0 := fun_mk (st := s_is_whole) l0 c0c k0
  have b0 := F0.binds (ps := ["thing", "least", "most"]) fun _ _ _ _ _ _ us hl => match us, hl with | [_, _, _], _ => rfl
  have F1 := fun_mk (st := s_check_count) l1 c1c k1
  have b1 := F1.binds (ps := ["count"]) fun _ _ _ _ _ _ us hl => match us, hl with | [_], _ => rfl
  have F2 := fun_mk (st := s_is_house) l2 c2c k2
  have b2 := F2.binds (ps := ["count", "thing"]) fun _ _ _ _ _ _ us hl => match us, hl with | [_, _], _ => rfl
  have F3 := fun_mk (st := s_most_liars) l3 c3c k3
  have b3 := F3.binds (ps := ["count"]) fun _ _ _ _ _ _ us hl => match us, hl with | [_], _ => rfl
  have F4 := fun_mk (st := s_enough) l4 c4c k4
  have b4 := F4.binds (ps := ["count"]) fun _ _ _ _ _ _ us hl => match us, hl with | [_], _ => rfl
  have F5 := fun_mk (st := s_is_row) l5 c5c k5
  have b5 := F5.binds (ps := ["thing"]) fun _ _ _ _ _ _ us hl => match us, hl with | [_], _ => rfl
  have F6 := fun_mk (st := s_place) l6 c6c k6
  have b6 := F6.binds (ps := ["word"]) fun _ _ _ _ _ _ us hl => match us, hl with | [_], _ => rfl
  have F7 := fun_mk (st := s_House___init__) l7 c7c k7
  have b7 := F7.binds (ps := ["self", "count", "own"]) fun _ _ _ _ _ _ us hl => match us, hl with | [_, _, _], _ => rfl
  have F8 := fun_mk (st := s_House_call) l8 c8c k8
  have b8 := F8.binds (ps := ["self", "row"]) fun _ _ _ _ _ _ us hl => match us, hl with | [_, _], _ => rfl
  have F9 := fun_mk (st := s_House_hear) l9 c9c k9
  have b9 := F9.binds (ps := ["self", "word"]) fun _ _ _ _ _ _ us hl => match us, hl with | [_, _], _ => rfl
  have F10 := fun_mk (st := s_House_ledger) l10 c10c k10
  have b10 := F10.binds (ps := ["self"]) fun _ _ _ _ _ _ us hl => match us, hl with | [_], _ => rfl
  have F11 := fun_mk (st := s_House_backing) l11 c11c k11
  have b11 := F11.binds (ps := ["self", "number"]) fun _ _ _ _ _ _ us hl => match us, hl with | [_, _], _ => rfl
  have F12 := fun_mk (st := s_House_caught) l12 c12c k12
  have b12 := F12.binds (ps := ["self"]) fun _ _ _ _ _ _ us hl => match us, hl with | [_], _ => rfl
  have F13 := fun_mk (st := s_House__learn) l13 c13c k13
  have b13 := F13.binds (ps := ["self", "word"]) fun _ _ _ _ _ _ us hl => match us, hl with | [_, _], _ => rfl
  have F14 := fun_mk (st := s_House__mark) l14 c14c k14
  have b14 := F14.binds (ps := ["self", "word"]) fun _ _ _ _ _ _ us hl => match us, hl with | [_, _], _ => rfl
  have F15 := fun_mk (st := s_House__write) l15 c15c k15
  have b15 := F15.binds (ps := ["self", "word"]) fun _ _ _ _ _ _ us hl => match us, hl with | [_, _], _ => rfl
  have F16 := fun_mk (st := s_House__name) l16 c16c k16
  have b16 := F16.binds (ps := ["self", "word"]) fun _ _ _ _ _ _ us hl => match us, hl with | [_, _], _ => rfl
  have F17 := fun_mk (st := s__law_at) l17 c17c k17
  have b17 := F17.binds (ps := ["_law_script", "_law_k"]) fun _ _ _ _ _ _ us hl => match us, hl with | [_, _], _ => rfl
  have F18 := fun_mk (st := s__law_whole) l18 c18c k18
  have b18 := F18.binds (ps := ["_law_thing"]) fun _ _ _ _ _ _ us hl => match us, hl with | [_], _ => rfl
  have F19 := fun_mk (st := s__law_row) l19 c19c k19
  have b19 := F19.binds (ps := ["_law_base", "_law_k"]) fun _ _ _ _ _ _ us hl => match us, hl with | [_, _], _ => rfl
  have F20 := fun_mk (st := s__law_enough) l20 c20c k20
  have b20 := F20.binds (ps := ["_law_count"]) fun _ _ _ _ _ _ us hl => match us, hl with | [_], _ => rfl
  have F21 := fun_mk (st := s__law_words) l21 c21c k21
  have b21 := F21.binds (ps := ["_law_found"]) fun _ _ _ _ _ _ us hl => match us, hl with | [_], _ => rfl
  have F22 := fun_mk (st := s__law_own) l22 c22c k22
  have b22 := F22.binds (ps := ["_law_count", "_law_house"]) fun _ _ _ _ _ _ us hl => match us, hl with | [_, _], _ => rfl
  have F23 := fun_mk (st := s__law_heard) l23 c23c k23
  have b23 := F23.binds (ps := ["_law_own_here", "_law_word_here"]) fun _ _ _ _ _ _ us hl => match us, hl with | [_, _], _ => rfl
  have F24 := fun_mk (st := s__law_word) l24 c24c k24
  have b24 := F24.binds (ps := ["_law_cell", "_law_own_here", "_law_base"]) fun _ _ _ _ _ _ us hl => match us, hl with | [_, _, _], _ => rfl
  have F25 := fun_mk (st := s__law_turned) l25 c25c k25
  have b25 := F25.binds (ps := ["_law_house", "_law_own_here"]) fun _ _ _ _ _ _ us hl => match us, hl with | [_, _], _ => rfl
  have F26 := fun_mk (st := s__law_state) l26 c26c k26
  have b26 := F26.binds (ps := ["_law_house", "_law_own_here", "_law_held"]) fun _ _ _ _ _ _ us hl => match us, hl with | [_, _, _], _ => rfl
  have F27 := fun_mk (st := s__law_unwritten) l27 c27c k27
  have b27 := F27.binds (ps := ["_law_house", "_law_number"]) fun _ _ _ _ _ _ us hl => match us, hl with | [_, _], _ => rfl
  have F28 := fun_mk (st := s__law_deed) l28 c28c k28
  have b28 := F28.binds (ps := ["_law_house", "_law_own_here", "_law_cell", "_law_base", "_law_calls"]) fun _ _ _ _ _ _ us hl => match us, hl with | [_, _, _, _, _], _ => rfl
  have F29 := fun_mk (st := s__law_great) l29 c29c k29
  have b29 := F29.binds (ps := ["_law_count", "_law_house"]) fun _ _ _ _ _ _ us hl => match us, hl with | [_, _], _ => rfl
  have F30 := fun_mk (st := s_law) l30 c30c k30
  obtain ⟨t_MOST_HOUSES, m_MOST_HOUSES⟩ := m_MOST_HOUSES
  obtain ⟨t_SAY, m_SAY⟩ := m_SAY
  obtain ⟨t_MARK, m_MARK⟩ := m_MARK
  obtain ⟨t_LONGEST_ROW, m_LONGEST_ROW⟩ := m_LONGEST_ROW
  obtain ⟨t_LETTERS, m_LETTERS⟩ := m_LETTERS
  let a : Ad := ⟨f0, f1, f2, f3, f4, f5, f6, f7, f8, f9, f10, f11, f12, f13, f14, f15, f16, f17, f18, f19, f20, f21, f22, f23, f24, f25, f26, f27, f28, f29, fa, PySem.W.fnOf "is_whole" "is_whole" (defArgs s_is_whole) (defBody s_is_whole) (defScope s_is_whole) .none kV0 dc0 pm0 an0 cd0 ct0, PySem.W.fnOf "check_count" "check_count" (defArgs s_check_count) (defBody s_check_count) (defScope s_check_count) .none kV1 dc1 pm1 an1 cd1 ct1, PySem.W.fnOf "is_house" "is_house" (defArgs s_is_house) (defBody s_is_house) (defScope s_is_house) .none kV2 dc2 pm2 an2 cd2 ct2, PySem.W.fnOf "most_liars" "most_liars" (defArgs s_most_liars) (defBody s_most_liars) (defScope s_most_liars) .none kV3 dc3 pm3 an3 cd3 ct3, PySem.W.fnOf "enough" "enough" (defArgs s_enough) (defBody s_enough) (defScope s_enough) .none kV4 dc4 pm4 an4 cd4 ct4, PySem.W.fnOf "is_row" "is_row" (defArgs s_is_row) (defBody s_is_row) (defScope s_is_row) .none kV5 dc5 pm5 an5 cd5 ct5, PySem.W.fnOf "place" "place" (defArgs s_place) (defBody s_place) (defScope s_place) .none kV6 dc6 pm6 an6 cd6 ct6, PySem.W.fnOf "__init__" "House.__init__" (defArgs s_House___init__) (defBody s_House___init__) (defScope s_House___init__) .none kV7 dc7 pm7 an7 cd7 ct7, PySem.W.fnOf "call" "House.call" (defArgs s_House_call) (defBody s_House_call) (defScope s_House_call) .none kV8 dc8 pm8 an8 cd8 ct8, PySem.W.fnOf "hear" "House.hear" (defArgs s_House_hear) (defBody s_House_hear) (defScope s_House_hear) .none kV9 dc9 pm9 an9 cd9 ct9, PySem.W.fnOf "ledger" "House.ledger" (defArgs s_House_ledger) (defBody s_House_ledger) (defScope s_House_ledger) .none kV10 dc10 pm10 an10 cd10 ct10, PySem.W.fnOf "backing" "House.backing" (defArgs s_House_backing) (defBody s_House_backing) (defScope s_House_backing) .none kV11 dc11 pm11 an11 cd11 ct11, PySem.W.fnOf "caught" "House.caught" (defArgs s_House_caught) (defBody s_House_caught) (defScope s_House_caught) .none kV12 dc12 pm12 an12 cd12 ct12, PySem.W.fnOf "_learn" "House._learn" (defArgs s_House__learn) (defBody s_House__learn) (defScope s_House__learn) .none kV13 dc13 pm13 an13 cd13 ct13, PySem.W.fnOf "_mark" "House._mark" (defArgs s_House__mark) (defBody s_House__mark) (defScope s_House__mark) .none kV14 dc14 pm14 an14 cd14 ct14, PySem.W.fnOf "_write" "House._write" (defArgs s_House__write) (defBody s_House__write) (defScope s_House__write) .none kV15 dc15 pm15 an15 cd15 ct15, PySem.W.fnOf "_name" "House._name" (defArgs s_House__name) (defBody s_House__name) (defScope s_House__name) .none kV16 dc16 pm16 an16 cd16 ct16, PySem.W.fnOf "_law_at" "_law_at" (defArgs s__law_at) (defBody s__law_at) (defScope s__law_at) .none kV17 dc17 pm17 an17 cd17 ct17, PySem.W.fnOf "_law_whole" "_law_whole" (defArgs s__law_whole) (defBody s__law_whole) (defScope s__law_whole) .none kV18 dc18 pm18 an18 cd18 ct18, PySem.W.fnOf "_law_row" "_law_row" (defArgs s__law_row) (defBody s__law_row) (defScope s__law_row) .none kV19 dc19 pm19 an19 cd19 ct19, PySem.W.fnOf "_law_enough" "_law_enough" (defArgs s__law_enough) (defBody s__law_enough) (defScope s__law_enough) .none kV20 dc20 pm20 an20 cd20 ct20, PySem.W.fnOf "_law_words" "_law_words" (defArgs s__law_words) (defBody s__law_words) (defScope s__law_words) .none kV21 dc21 pm21 an21 cd21 ct21, PySem.W.fnOf "_law_own" "_law_own" (defArgs s__law_own) (defBody s__law_own) (defScope s__law_own) .none kV22 dc22 pm22 an22 cd22 ct22, PySem.W.fnOf "_law_heard" "_law_heard" (defArgs s__law_heard) (defBody s__law_heard) (defScope s__law_heard) .none kV23 dc23 pm23 an23 cd23 ct23, PySem.W.fnOf "_law_word" "_law_word" (defArgs s__law_word) (defBody s__law_word) (defScope s__law_word) .none kV24 dc24 pm24 an24 cd24 ct24, PySem.W.fnOf "_law_turned" "_law_turned" (defArgs s__law_turned) (defBody s__law_turned) (defScope s__law_turned) .none kV25 dc25 pm25 an25 cd25 ct25, PySem.W.fnOf "_law_state" "_law_state" (defArgs s__law_state) (defBody s__law_state) (defScope s__law_state) .none kV26 dc26 pm26 an26 cd26 ct26, PySem.W.fnOf "_law_unwritten" "_law_unwritten" (defArgs s__law_unwritten) (defBody s__law_unwritten) (defScope s__law_unwritten) .none kV27 dc27 pm27 an27 cd27 ct27, PySem.W.fnOf "_law_deed" "_law_deed" (defArgs s__law_deed) (defBody s__law_deed) (defScope s__law_deed) .none kV28 dc28 pm28 an28 cd28 ct28, PySem.W.fnOf "_law_great" "_law_great" (defArgs s__law_great) (defBody s__law_great) (defScope s__law_great) .none kV29 dc29 pm29 an29 cd29 ct29, PySem.W.fnOf "law" "law" (defArgs s_law) (defBody s_law) (defScope s_law) .none kV30 dc30 pm30 an30 cd30 ct30, c0, c1, c2, c3, c4, c5, t_MOST_HOUSES, t_SAY, t_MARK, t_LONGEST_ROW, t_LETTERS⟩
  have T : Txt K mg a := {
    F_is_whole := F0,
    g_is_whole := PySem.W.mg_of X G a0,
    b_is_whole := b0,
    F_check_count := F1,
    g_check_count := PySem.W.mg_of X G a1,
    b_check_count := b1,
    F_is_house := F2,
    g_is_house := PySem.W.mg_of X G a2,
    b_is_house := b2,
    F_most_liars := F3,
    g_most_liars := PySem.W.mg_of X G a3,
    b_most_liars := b3,
    F_enough := F4,
    g_enough := PySem.W.mg_of X G a4,
    b_enough := b4,
    F_is_row := F5,
    g_is_row := PySem.W.mg_of X G a5,
    b_is_row := b5,
    F_place := F6,
    g_place := PySem.W.mg_of X G a6,
    b_place := b6,
    F_House___init__ := F7,
    me_House___init__ := ⟨a7, ii7, k7⟩,
    b_House___init__ := b7,
    F_House_call := F8,
    me_House_call := ⟨a8, ii8, k8⟩,
    b_House_call := b8,
    F_House_hear := F9,
    me_House_hear := ⟨a9, ii9, k9⟩,
    b_House_hear := b9,
    F_House_ledger := F10,
    me_House_ledger := ⟨a10, ii10, k10⟩,
    b_House_ledger := b10,
    F_House_backing := F11,
    me_House_backing := ⟨a11, ii11, k11⟩,
    b_House_backing := b11,
    F_House_caught := F12,
    me_House_caught := ⟨a12, ii12, k12⟩,
    b_House_caught := b12,
    F_House__learn := F13,
    me_House__learn := ⟨a13, ii13, k13⟩,
    b_House__learn := b13,
    F_House__mark := F14,
    me_House__mark := ⟨a14, ii14, k14⟩,
    b_House__mark := b14,
    F_House__write := F15,
    me_House__write := ⟨a15, ii15, k15⟩,
    b_House__write := b15,
    F_House__name := F16,
    me_House__name := ⟨a16, ii16, k16⟩,
    b_House__name := b16,
    F__law_at := F17,
    g__law_at := PySem.W.mg_of X G a17,
    b__law_at := b17,
    F__law_whole := F18,
    g__law_whole := PySem.W.mg_of X G a18,
    b__law_whole := b18,
    F__law_row := F19,
    g__law_row := PySem.W.mg_of X G a19,
    b__law_row := b19,
    F__law_enough := F20,
    g__law_enough := PySem.W.mg_of X G a20,
    b__law_enough := b20,
    F__law_words := F21,
    g__law_words := PySem.W.mg_of X G a21,
    b__law_words := b21,
    F__law_own := F22,
    g__law_own := PySem.W.mg_of X G a22,
    b__law_own := b22,
    F__law_heard := F23,
    g__law_heard := PySem.W.mg_of X G a23,
    b__law_heard := b23,
    F__law_word := F24,
    g__law_word := PySem.W.mg_of X G a24,
    b__law_word := b24,
    F__law_turned := F25,
    g__law_turned := PySem.W.mg_of X G a25,
    b__law_turned := b25,
    F__law_state := F26,
    g__law_state := PySem.W.mg_of X G a26,
    b__law_state := b26,
    F__law_unwritten := F27,
    g__law_unwritten := PySem.W.mg_of X G a27,
    b__law_unwritten := b27,
    F__law_deed := F28,
    g__law_deed := PySem.W.mg_of X G a28,
    b__law_deed := b28,
    F__law_great := F29,
    g__law_great := PySem.W.mg_of X G a29,
    b__law_great := b29,
    F_law := F30,
    g_HouseError := PySem.W.mg_of X G g0,
    g_BadCount := PySem.W.mg_of X G g1,
    g_BadHouse := PySem.W.mg_of X G g2,
    g_BadRow := PySem.W.mg_of X G g3,
    g_NotWritten := PySem.W.mg_of X G g4,
    g_House := PySem.W.mg_of X G g5,
    cl_House := ⟨pg_c5, hd_c5, po_c5, sa_c5⟩,
    mk_House := ⟨mm_c5, a7, ii7, kp_c5⟩,
    na_House__count := na_c5__count,
    na_House__own := na_c5__own,
    na_House__due := na_c5__due,
    na_House__known := na_c5__known,
    na_House__earliest := na_c5__earliest,
    na_House__marked := na_c5__marked,
    na_House__marks := na_c5__marks,
    na_House__rows := na_c5__rows,
    na_House__backings := na_c5__backings,
    na_House__named := na_c5__named,
    x_BadCount := x_c1,
    k_BadCount := kk_c1,
    bx_BadCount := bx_c1,
    t_BadCount := t_c1,
    e_BadCount := e_c1,
    c_BadCount := ⟨y1_c1, y2_c1, bx_c1, y4_c1, y5_c1, y6, y7, y8_c1⟩,
    x_BadHouse := x_c2,
    k_BadHouse := kk_c2,
    bx_BadHouse := bx_c2,
    t_BadHouse := t_c2,
    e_BadHouse := e_c2,
    c_BadHouse := ⟨y1_c2, y2_c2, bx_c2, y4_c2, y5_c2, y6, y7, y8_c2⟩,
    x_BadRow := x_c3,
    k_BadRow := kk_c3,
    bx_BadRow := bx_c3,
    t_BadRow := t_c3,
    e_BadRow := e_c3,
    c_BadRow := ⟨y1_c3, y2_c3, bx_c3, y4_c3, y5_c3, y6, y7, y8_c3⟩,
    x_NotWritten := x_c4,
    k_NotWritten := kk_c4,
    bx_NotWritten := bx_c4,
    t_NotWritten := t_c4,
    e_NotWritten := e_c4,
    c_NotWritten := ⟨y1_c4, y2_c4, bx_c4, y4_c4, y5_c4, y6, y7, y8_c4⟩,
    i_BadCount_BadCount := i_c1_c1,
    i_BadCount_BadHouse := i_c1_c2,
    i_BadCount_BadRow := i_c1_c3,
    i_BadCount_BadWord := i_c1_BadWord,
    i_BadCount_Forged := i_c1_Forged,
    i_BadCount_NoLetter := i_c1_NoLetter,
    i_BadCount_NotWritten := i_c1_c4,
    i_BadCount_NoText := i_c1_NoText,
    i_BadCount_ValueError := i_c1_ValueError,
    i_BadHouse_BadCount := i_c2_c1,
    i_BadHouse_BadHouse := i_c2_c2,
    i_BadHouse_BadRow := i_c2_c3,
    i_BadHouse_BadWord := i_c2_BadWord,
    i_BadHouse_Forged := i_c2_Forged,
    i_BadHouse_NoLetter := i_c2_NoLetter,
    i_BadHouse_NotWritten := i_c2_c4,
    i_BadHouse_NoText := i_c2_NoText,
    i_BadHouse_ValueError := i_c2_ValueError,
    i_BadRow_BadCount := i_c3_c1,
    i_BadRow_BadHouse := i_c3_c2,
    i_BadRow_BadRow := i_c3_c3,
    i_BadRow_BadWord := i_c3_BadWord,
    i_BadRow_Forged := i_c3_Forged,
    i_BadRow_NoLetter := i_c3_NoLetter,
    i_BadRow_NotWritten := i_c3_c4,
    i_BadRow_NoText := i_c3_NoText,
    i_BadRow_ValueError := i_c3_ValueError,
    i_NotWritten_BadCount := i_c4_c1,
    i_NotWritten_BadHouse := i_c4_c2,
    i_NotWritten_BadRow := i_c4_c3,
    i_NotWritten_BadWord := i_c4_BadWord,
    i_NotWritten_Forged := i_c4_Forged,
    i_NotWritten_NoLetter := i_c4_NoLetter,
    i_NotWritten_NotWritten := i_c4_c4,
    i_NotWritten_NoText := i_c4_NoText,
    i_NotWritten_ValueError := i_c4_ValueError,
    m_MOST_HOUSES := PySem.W.mg_of X G m_MOST_HOUSES,
    m_SAY := PySem.W.mg_of X G m_SAY,
    m_MARK := PySem.W.mg_of X G m_MARK,
    m_LONGEST_ROW := PySem.W.mg_of X G m_LONGEST_ROW,
    m_LETTERS := PySem.W.mg_of X G m_LETTERS,
    es_NotWritten := es_c4,
    n_abs := PySem.W.mg_none_of X G n_abs,
    n_all := PySem.W.mg_none_of X G n_all,
    n_bool := PySem.W.mg_none_of X G n_bool,
    n_dict := PySem.W.mg_none_of X G n_dict,
    n_int := PySem.W.mg_none_of X G n_int,
    n_isinstance := PySem.W.mg_none_of X G n_isinstance,
    n_len := PySem.W.mg_none_of X G n_len,
    n_list := PySem.W.mg_none_of X G n_list,
    n_range := PySem.W.mg_none_of X G n_range,
    n_sorted := PySem.W.mg_none_of X G n_sorted,
    n_str := PySem.W.mg_none_of X G n_str,
    n_tuple := PySem.W.mg_none_of X G n_tuple,
    n_type := PySem.W.mg_none_of X G n_type }
  exact ⟨_, fun s v => .of_eq rfl, fun base _ _ => ok_law T⟩
end K6
open PySem PySem.W PyProof.Rows
set_option maxRecDepth 100000 in
set_option maxHeartbeats 0 in
theorem PySem.Challenge.cw_latehouse_k06_an_honest_house_holds : PySem.Challenge.rw_latehouse_k06_an_honest_house.Holds := by
  w_on; o_law; k_head; (case hw => w_witness2)
  k_fill
  refine L2.walk_of (l := PySem.Challenge.rw_latehouse_k06_an_honest_house) (n := 63) (k := 9) (x := "_law_script") (CX := fun _ => L2.CX0) (sp := fun w => K6.spLaw _) rfl (by decide) rfl ⟨rfl, by decide, by decide⟩ (fun w h Y => PySem.W.kIn_of Y) ?F (fun _ _ a ns hl _ hS => ⟨a, ns, rfl, hS, hl, fun _ => rfl⟩) (fun _ _ _ _ _ h => h)
  case F =>
    intro w mg fa h KX G hmg
    refine' K6.all_mk KX G hmg ?zq_g0 ?zq_g1 ?zq_g2 ?zq_g3 ?zq_g4 ?zq_g5 ?zq_a0 ?zq_l0 ?zq_c0c ?zq_k0 ?zq_a1 ?zq_l1 ?zq_c1c ?zq_k1 ?zq_a2 ?zq_l2 ?zq_c2c ?zq_k2 ?zq_a3 ?zq_l3 ?zq_c3c ?zq_k3 ?zq_a4 ?zq_l4 ?zq_c4c ?zq_k4 ?zq_a5 ?zq_l5 ?zq_c5c ?zq_k5 ?zq_a6 ?zq_l6 ?zq_c6c ?zq_k6 ?zq_a7 ?zq_l7 ?zq_c7c ?zq_k7 ?zq_ii7 ?zq_a8 ?zq_l8 ?zq_c8c ?zq_k8 ?zq_ii8 ?zq_a9 ?zq_l9 ?zq_c9c ?zq_k9 ?zq_ii9 ?zq_a10 ?zq_l10 ?zq_c10c ?zq_k10 ?zq_ii10 ?zq_a11 ?zq_l11 ?zq_c11c ?zq_k11 ?zq_ii11 ?zq_a12 ?zq_l12 ?zq_c12c ?zq_k12 ?zq_ii12 ?zq_a13 ?zq_l13 ?zq_c13c ?zq_k13 ?zq_ii13 ?zq_a14 ?zq_l14 ?zq_c14c ?zq_k14 ?zq_ii14 ?zq_a15 ?zq_l15 ?zq_c15c ?zq_k15 ?zq_ii15 ?zq_a16 ?zq_l16 ?zq_c16c ?zq_k16 ?zq_ii16 ?zq_a17 ?zq_l17 ?zq_c17c ?zq_k17 ?zq_a18 ?zq_l18 ?zq_c18c ?zq_k18 ?zq_a19 ?zq_l19 ?zq_c19c ?zq_k19 ?zq_a20 ?zq_l20 ?zq_c20c ?zq_k20 ?zq_a21 ?zq_l21 ?zq_c21c ?zq_k21 ?zq_a22 ?zq_l22 ?zq_c22c ?zq_k22 ?zq_a23 ?zq_l23 ?zq_c23c ?zq_k23 ?zq_a24 ?zq_l24 ?zq_c24c ?zq_k24 ?zq_a25 ?zq_l25 ?zq_c25c ?zq_k25 ?zq_a26 ?zq_l26 ?zq_c26c ?zq_k26 ?zq_a27 ?zq_l27 ?zq_c27c ?zq_k27 ?zq_a28 ?zq_l28 ?zq_c28c ?zq_k28 ?zq_a29 ?zq_l29 ?zq_c29c ?zq_k29 ?zq_a30 ?zq_l30 ?zq_c30c ?zq_k30 ?zq_pg_c5 ?zq_hd_c5 ?zq_po_c5 ?zq_sa_c5 ?zq_mm_c5 ?zq_kp_c5 ?zq_na_c5__count ?zq_na_c5__own ?zq_na_c5__due ?zq_na_c5__known ?zq_na_c5__earliest ?zq_na_c5__marked ?zq_na_c5__marks ?zq_na_c5__rows ?zq_na_c5__backings ?zq_na_c5__named ?zq_x_c1 ?zq_kk_c1 ?zq_bx_c1 ?zq_t_c1 ?zq_e_c1 ?zq_y1_c1 ?zq_y2_c1 ?zq_y4_c1 ?zq_y5_c1 ?zq_y8_c1 ?zq_x_c2 ?zq_kk_c2 ?zq_bx_c2 ?zq_t_c2 ?zq_e_c2 ?zq_y1_c2 ?zq_y2_c2 ?zq_y4_c2 ?zq_y5_c2 ?zq_y8_c2 ?zq_x_c3 ?zq_kk_c3 ?zq_bx_c3 ?zq_t_c3 ?zq_e_c3 ?zq_y1_c3 ?zq_y2_c3 ?zq_y4_c3 ?zq_y5_c3 ?zq_y8_c3 ?zq_x_c4 ?zq_kk_c4 ?zq_bx_c4 ?zq_t_c4 ?zq_e_c4 ?zq_es_c4 ?zq_y1_c4 ?zq_y2_c4 ?zq_y4_c4 ?zq_y5_c4 ?zq_y8_c4 ?zq_y6 ?zq_y7 ?zq_i_c1_c1 ?zq_i_c1_c2 ?zq_i_c1_c3 ?zq_i_c1_BadWord ?zq_i_c1_Forged ?zq_i_c1_NoLetter ?zq_i_c1_c4 ?zq_i_c1_NoText ?zq_i_c1_ValueError ?zq_i_c2_c1 ?zq_i_c2_c2 ?zq_i_c2_c3 ?zq_i_c2_BadWord ?zq_i_c2_Forged ?zq_i_c2_NoLetter ?zq_i_c2_c4 ?zq_i_c2_NoText ?zq_i_c2_ValueError ?zq_i_c3_c1 ?zq_i_c3_c2 ?zq_i_c3_c3 ?zq_i_c3_BadWord ?zq_i_c3_Forged ?zq_i_c3_NoLetter ?zq_i_c3_c4 ?zq_i_c3_NoText ?zq_i_c3_ValueError ?zq_i_c4_c1 ?zq_i_c4_c2 ?zq_i_c4_c3 ?zq_i_c4_BadWord ?zq_i_c4_Forged ?zq_i_c4_NoLetter ?zq_i_c4_c4 ?zq_i_c4_NoText ?zq_i_c4_ValueError ?zq_m_MOST_HOUSES ?zq_m_SAY ?zq_m_MARK ?zq_m_LONGEST_ROW ?zq_m_LETTERS ?zq_n_abs ?zq_n_all ?zq_n_bool ?zq_n_dict ?zq_n_int ?zq_n_isinstance ?zq_n_len ?zq_n_list ?zq_n_range ?zq_n_sorted ?zq_n_str ?zq_n_tuple ?zq_n_type
    (case zq_g0 => first | k_is | rfl)
    (case zq_g1 => first | k_is | rfl)
    (case zq_g2 => first | k_is | rfl)
    (case zq_g3 => first | k_is | rfl)
    (case zq_g4 => first | k_is | rfl)
    (case zq_g5 => first | k_is | rfl)
    (case zq_a0 => first | k_is | rfl)
    (case zq_l0 => first | k_is | rfl)
    (case zq_c0c => first | k_is | rfl)
    (case zq_k0 => first | k_is | rfl)
    (case zq_a1 => first | k_is | rfl)
    (case zq_l1 => first | k_is | rfl)
    (case zq_c1c => first | k_is | rfl)
    (case zq_k1 => first | k_is | rfl)
    (case zq_a2 => first | k_is | rfl)
    (case zq_l2 => first | k_is | rfl)
    (case zq_c2c => first | k_is | rfl)
    (case zq_k2 => first | k_is | rfl)
    (case zq_a3 => first | k_is | rfl)
    (case zq_l3 => first | k_is | rfl)
    (case zq_c3c => first | k_is | rfl)
    (case zq_k3 => first | k_is | rfl)
    (case zq_a4 => first | k_is | rfl)
    (case zq_l4 => first | k_is | rfl)
    (case zq_c4c => first | k_is | rfl)
    (case zq_k4 => first | k_is | rfl)
    (case zq_a5 => first | k_is | rfl)
    (case zq_l5 => first | k_is | rfl)
    (case zq_c5c => first | k_is | rfl)
    (case zq_k5 => first | k_is | rfl)
    (case zq_a6 => first | k_is | rfl)
    (case zq_l6 => first | k_is | rfl)
    (case zq_c6c => first | k_is | rfl)
    (case zq_k6 => first | k_is | rfl)
    (case zq_a7 => first | k_is | rfl)
    (case zq_l7 => first | k_is | rfl)
    (case zq_c7c => first | k_is | rfl)
    (case zq_k7 => first | k_is | rfl)
    (case zq_ii7 => first | k_is | rfl)
    (case zq_a8 => first | k_is | rfl)
    (case zq_l8 => first | k_is | rfl)
    (case zq_c8c => first | k_is | rfl)
    (case zq_k8 => first | k_is | rfl)
    (case zq_ii8 => first | k_is | rfl)
    (case zq_a9 => first | k_is | rfl)
    (case zq_l9 => first | k_is | rfl)
    (case zq_c9c => first | k_is | rfl)
    (case zq_k9 => first | k_is | rfl)
    (case zq_ii9 => first | k_is | rfl)
    (case zq_a10 => first | k_is | rfl)
    (case zq_l10 => first | k_is | rfl)
    (case zq_c10c => first | k_is | rfl)
    (case zq_k10 => first | k_is | rfl)
    (case zq_ii10 => first | k_is | rfl)
    (case zq_a11 => first | k_is | rfl)
    (case zq_l11 => first | k_is | rfl)
    (case zq_c11c => first | k_is | rfl)
    (case zq_k11 => first | k_is | rfl)
    (case zq_ii11 => first | k_is | rfl)
    (case zq_a12 => first | k_is | rfl)
    (case zq_l12 => first | k_is | rfl)
    (case zq_c12c => first | k_is | rfl)
    (case zq_k12 => first | k_is | rfl)
    (case zq_ii12 => first | k_is | rfl)
    (case zq_a13 => first | k_is | rfl)
    (case zq_l13 => first | k_is | rfl)
    (case zq_c13c => first | k_is | rfl)
    (case zq_k13 => first | k_is | rfl)
    (case zq_ii13 => first | k_is | rfl)
    (case zq_a14 => first | k_is | rfl)
    (case zq_l14 => first | k_is | rfl)
    (case zq_c14c => first | k_is | rfl)
    (case zq_k14 => first | k_is | rfl)
    (case zq_ii14 => first | k_is | rfl)
    (case zq_a15 => first | k_is | rfl)
    (case zq_l15 => first | k_is | rfl)
    (case zq_c15c => first | k_is | rfl)
    (case zq_k15 => first | k_is | rfl)
    (case zq_ii15 => first | k_is | rfl)
    (case zq_a16 => first | k_is | rfl)
    (case zq_l16 => first | k_is | rfl)
    (case zq_c16c => first | k_is | rfl)
    (case zq_k16 => first | k_is | rfl)
    (case zq_ii16 => first | k_is | rfl)
    (case zq_a17 => first | k_is | rfl)
    (case zq_l17 => first | k_is | rfl)
    (case zq_c17c => first | k_is | rfl)
    (case zq_k17 => first | k_is | rfl)
    (case zq_a18 => first | k_is | rfl)
    (case zq_l18 => first | k_is | rfl)
    (case zq_c18c => first | k_is | rfl)
    (case zq_k18 => first | k_is | rfl)
    (case zq_a19 => first | k_is | rfl)
    (case zq_l19 => first | k_is | rfl)
    (case zq_c19c => first | k_is | rfl)
    (case zq_k19 => first | k_is | rfl)
    (case zq_a20 => first | k_is | rfl)
    (case zq_l20 => first | k_is | rfl)
    (case zq_c20c => first | k_is | rfl)
    (case zq_k20 => first | k_is | rfl)
    (case zq_a21 => first | k_is | rfl)
    (case zq_l21 => first | k_is | rfl)
    (case zq_c21c => first | k_is | rfl)
    (case zq_k21 => first | k_is | rfl)
    (case zq_a22 => first | k_is | rfl)
    (case zq_l22 => first | k_is | rfl)
    (case zq_c22c => first | k_is | rfl)
    (case zq_k22 => first | k_is | rfl)
    (case zq_a23 => first | k_is | rfl)
    (case zq_l23 => first | k_is | rfl)
    (case zq_c23c => first | k_is | rfl)
    (case zq_k23 => first | k_is | rfl)
    (case zq_a24 => first | k_is | rfl)
    (case zq_l24 => first | k_is | rfl)
    (case zq_c24c => first | k_is | rfl)
    (case zq_k24 => first | k_is | rfl)
    (case zq_a25 => first | k_is | rfl)
    (case zq_l25 => first | k_is | rfl)
    (case zq_c25c => first | k_is | rfl)
    (case zq_k25 => first | k_is | rfl)
    (case zq_a26 => first | k_is | rfl)
    (case zq_l26 => first | k_is | rfl)
    (case zq_c26c => first | k_is | rfl)
    (case zq_k26 => first | k_is | rfl)
    (case zq_a27 => first | k_is | rfl)
    (case zq_l27 => first | k_is | rfl)
    (case zq_c27c => first | k_is | rfl)
    (case zq_k27 => first | k_is | rfl)
    (case zq_a28 => first | k_is | rfl)
    (case zq_l28 => first | k_is | rfl)
    (case zq_c28c => first | k_is | rfl)
    (case zq_k28 => first | k_is | rfl)
    (case zq_a29 => first | k_is | rfl)
    (case zq_l29 => first | k_is | rfl)
    (case zq_c29c => first | k_is | rfl)
    (case zq_k29 => first | k_is | rfl)
    (case zq_a30 => first | k_is | rfl)
    (case zq_l30 => first | k_is | rfl)
    (case zq_c30c => first | k_is | rfl)
    (case zq_k30 => first | k_is | rfl)
    (case zq_pg_c5 => first | k_is | rfl)
    (case zq_hd_c5 => first | k_is | rfl)
    (case zq_po_c5 => first | k_is | rfl)
    (case zq_sa_c5 => first | k_is | rfl)
    (case zq_mm_c5 => first | k_is | rfl)
    (case zq_kp_c5 => first | k_is | rfl)
    (case zq_na_c5__count => first | k_is | rfl)
    (case zq_na_c5__own => first | k_is | rfl)
    (case zq_na_c5__due => first | k_is | rfl)
    (case zq_na_c5__known => first | k_is | rfl)
    (case zq_na_c5__earliest => first | k_is | rfl)
    (case zq_na_c5__marked => first | k_is | rfl)
    (case zq_na_c5__marks => first | k_is | rfl)
    (case zq_na_c5__rows => first | k_is | rfl)
    (case zq_na_c5__backings => first | k_is | rfl)
    (case zq_na_c5__named => first | k_is | rfl)
    (case zq_x_c1 => k_exc)
    (case zq_kk_c1 => first | k_is | rfl)
    (case zq_bx_c1 => first | k_is | rfl)
    (case zq_t_c1 => first | k_is | rfl)
    (case zq_e_c1 => first | k_is | rfl)
    (case zq_y1_c1 => first | k_is | rfl)
    (case zq_y2_c1 => first | k_is | rfl)
    (case zq_y4_c1 => first | k_is | rfl)
    (case zq_y5_c1 => first | k_is | rfl)
    (case zq_y8_c1 => first | k_is | rfl)
    (case zq_x_c2 => k_exc)
    (case zq_kk_c2 => first | k_is | rfl)
    (case zq_bx_c2 => first | k_is | rfl)
    (case zq_t_c2 => first | k_is | rfl)
    (case zq_e_c2 => first | k_is | rfl)
    (case zq_y1_c2 => first | k_is | rfl)
    (case zq_y2_c2 => first | k_is | rfl)
    (case zq_y4_c2 => first | k_is | rfl)
    (case zq_y5_c2 => first | k_is | rfl)
    (case zq_y8_c2 => first | k_is | rfl)
    (case zq_x_c3 => k_exc)
    (case zq_kk_c3 => first | k_is | rfl)
    (case zq_bx_c3 => first | k_is | rfl)
    (case zq_t_c3 => first | k_is | rfl)
    (case zq_e_c3 => first | k_is | rfl)
    (case zq_y1_c3 => first | k_is | rfl)
    (case zq_y2_c3 => first | k_is | rfl)
    (case zq_y4_c3 => first | k_is | rfl)
    (case zq_y5_c3 => first | k_is | rfl)
    (case zq_y8_c3 => first | k_is | rfl)
    (case zq_x_c4 => k_exc)
    (case zq_kk_c4 => first | k_is | rfl)
    (case zq_bx_c4 => first | k_is | rfl)
    (case zq_t_c4 => first | k_is | rfl)
    (case zq_e_c4 => first | k_is | rfl)
    (case zq_es_c4 => first | k_is | rfl)
    (case zq_y1_c4 => first | k_is | rfl)
    (case zq_y2_c4 => first | k_is | rfl)
    (case zq_y4_c4 => first | k_is | rfl)
    (case zq_y5_c4 => first | k_is | rfl)
    (case zq_y8_c4 => first | k_is | rfl)
    (case zq_y6 => first | k_is | rfl)
    (case zq_y7 => first | k_is | rfl)
    (case zq_i_c1_c1 => first | k_is | rfl)
    (case zq_i_c1_c2 => first | k_is | rfl)
    (case zq_i_c1_c3 => first | k_is | rfl)
    (case zq_i_c1_BadWord => first | k_is | rfl)
    (case zq_i_c1_Forged => first | k_is | rfl)
    (case zq_i_c1_NoLetter => first | k_is | rfl)
    (case zq_i_c1_c4 => first | k_is | rfl)
    (case zq_i_c1_NoText => first | k_is | rfl)
    (case zq_i_c1_ValueError => first | k_is | rfl)
    (case zq_i_c2_c1 => first | k_is | rfl)
    (case zq_i_c2_c2 => first | k_is | rfl)
    (case zq_i_c2_c3 => first | k_is | rfl)
    (case zq_i_c2_BadWord => first | k_is | rfl)
    (case zq_i_c2_Forged => first | k_is | rfl)
    (case zq_i_c2_NoLetter => first | k_is | rfl)
    (case zq_i_c2_c4 => first | k_is | rfl)
    (case zq_i_c2_NoText => first | k_is | rfl)
    (case zq_i_c2_ValueError => first | k_is | rfl)
    (case zq_i_c3_c1 => first | k_is | rfl)
    (case zq_i_c3_c2 => first | k_is | rfl)
    (case zq_i_c3_c3 => first | k_is | rfl)
    (case zq_i_c3_BadWord => first | k_is | rfl)
    (case zq_i_c3_Forged => first | k_is | rfl)
    (case zq_i_c3_NoLetter => first | k_is | rfl)
    (case zq_i_c3_c4 => first | k_is | rfl)
    (case zq_i_c3_NoText => first | k_is | rfl)
    (case zq_i_c3_ValueError => first | k_is | rfl)
    (case zq_i_c4_c1 => first | k_is | rfl)
    (case zq_i_c4_c2 => first | k_is | rfl)
    (case zq_i_c4_c3 => first | k_is | rfl)
    (case zq_i_c4_BadWord => first | k_is | rfl)
    (case zq_i_c4_Forged => first | k_is | rfl)
    (case zq_i_c4_NoLetter => first | k_is | rfl)
    (case zq_i_c4_c4 => first | k_is | rfl)
    (case zq_i_c4_NoText => first | k_is | rfl)
    (case zq_i_c4_ValueError => first | k_is | rfl)
    (case zq_m_MOST_HOUSES => exact ⟨_, by k_is⟩)
    (case zq_m_SAY => exact ⟨_, by k_is⟩)
    (case zq_m_MARK => exact ⟨_, by k_is⟩)
    (case zq_m_LONGEST_ROW => exact ⟨_, by k_is⟩)
    (case zq_m_LETTERS => exact ⟨_, by k_is⟩)
    (case zq_n_abs => first | k_is | rfl)
    (case zq_n_all => first | k_is | rfl)
    (case zq_n_bool => first | k_is | rfl)
    (case zq_n_dict => first | k_is | rfl)
    (case zq_n_int => first | k_is | rfl)
    (case zq_n_isinstance => first | k_is | rfl)
    (case zq_n_len => first | k_is | rfl)
    (case zq_n_list => first | k_is | rfl)
    (case zq_n_range => first | k_is | rfl)
    (case zq_n_sorted => first | k_is | rfl)
    (case zq_n_str => first | k_is | rfl)
    (case zq_n_tuple => first | k_is | rfl)
    (case zq_n_type => first | k_is | rfl)
